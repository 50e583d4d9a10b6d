import PyProof.Rows.All
import Wide.All
import OpenK.AllK
import Wide.FinOn
import Lean
import PyProof.EqAt
import PyProof.EqKinds
import PyProof.TupleCall
import PyProof.ExcBaseAll.ValueError
import PyProof.RulesAs
import PyProof.RulesDel
import PyProof.ExcArgsOwn
import PyProof.Draws
import PyProof.EnumFor
import PyProof.EnumMake
import KE.KDictList
import PyProof.ZipIter
import PyProof.TupleIter
import KE.KItemsList
import PyProof.AttrMissHeap
import KE.KDictOf
import PyProof.Rows.ZipGen
import PyProof.Rows.BootFacts
import PyProof.NeKinds
import PyProof.ListRange
import PyProof.RangeFor
import PyProof.DictCompW
import PyProof.CollectIter
import PyProof.WalksMore
import PyProof.DictUpdate
import PyProof.StrBlockH
import PyProof.StrLawsTight
import PyProof.StrLawsChain
import PyProof.StrCalls6
import PyProof.StrLawsReplace
import PyProof.ListIndex
import PyProof.Rows.DictUnroll
import PyProof.ExcClass3
import PyProof.InstStore
import PyProof.InstStoreFacts
import OpenK.KOwn
import OpenK.KMake
import PyProof.InstLoad
import KE.KLam
import KE.KNestM
import PyProof.WalkInts
import PyProof.StrBlockI
import PyProof.StrLawsIdx
import PyProof.SliceStr2
import PyProof.Rows.StrWeight2
import PyProof.ReprLen
import PyProof.StrLawsIn
import KE.RegKIsAll
import PySem.Challenge.RW_fewthings_k15_spoilt_sayings_read
namespace PySem.W.Fast
def tw1718430689763912957:=0
def tw14262792883047768305:=0
def tw6821722373199121194:=0
def tw13752299320749594330:=0
def tw18242156045019282700:=0
def tw17130441578431448123:=0
def tw10461368947463900295:=0
def tw9759042458557505672:=0
def tw6477095899516932948:=0
def tw16558280067995092604:=0
def tw15379310810894868281:=0
def tw15690511475468014452:=0
def tw12287070404806412570:=0
def tw17523345629051900980:=0
def tw17308846991541250077:=0
def tw4073280642798943791:=0
def tw3311563156506178586:=0
def tw6799770398128824654:=0
def tw5636087753838087516:=0
def tw11726275154566645492:=0
def tw1861868539697422155:=0
def tw8789750919444013656:=0
def tw3306306620141818660:=0
def tw17048350185003583951:=0
def tw11343232496415445020:=0
def tw16711315530771350414:=0
def tw3445920553022188505:=0
def tw670643861393366081:=0
def tw7658854755166623298:=0
def tw13065397990626760161:=0
def tw1127883180118998178:=0
def tw9499618811511103489:=0
def tw8019545466414519471:=0
def tw844504776936636195:=0
def tw14853221185160714600:=0
def tw16664220183513871824:=0
def tw8281315025204116156:=0
def tw14581070846345433288:=0
def tw12021059971871921981:=0
def tw7499741906497926128:=0
def tw11941690161467848512:=0
def tw940060346076440682:=0
def tw6122193267883352827:=0
def tw261206195383078380:=0
def tw6173359142251178450:=0
def tw16892270218925969194:=0
def tw1846940261916040317:=0
def tw16053018073922922635:=0
def tw937458423505135526:=0
def tw15977373505251318737:=0
def tw7840567321505781287:=0
def tw12974472666012438270:=0
def tw12103250010752342536:=0
def tw11883022349825911941:=0
def tw10612739287194596104:=0
def tw10688731315785575642:=0
def tw14151420742663891874:=0
def tw7670978190385716228:=0
def tw17216400518524143026:=0
def tw44943772717443292:=0
def tw3514618899009073707:=0
def tw5889336641155424048:=0
def tw15517351059249191879:=0
def tw14490844082575723959:=0
def tw3084346709469482082:=0
def tw6780403569070344591:=0
def tw7905792104414955908:=0
def tw12399583966988864504:=0
def tw7918186477629126191:=0
def tw15253585384361973540:=0
def tw2096966770363847124:=0
def tw3554205896872865992:=0
def tw10613098757460449120:=0
def tw8784479869066136096:=0
def tw6461700551437865401:=0
def tw745330346528245690:=0
def tw12274688874859944204:=0
def tw11458676086629371631:=0
def tw10656043577179305050:=0
def tw5898258383091065212:=0
def tw2737815395015711160:=0
def tw1206096467205248362:=0
def tw5436814800292884043:=0
def tw10652877907961950993:=0
def tw17771996412610181223:=0
def tw15486735564030845276:=0
def tw10139024406933950586:=0
def tw13465027873068224974:=0
def tw10233867857614282549:=0
def tw18136891199965234582:=0
def tw11093510308039112282:=0
def tw10294917898936038973:=0
def tw5943400569224293801:=0
def tw8007157332941228695:=0
def tw3019247213835698984:=0
def tw8846724347180713873:=0
def tw13443690973772474731:=0
def tw13328096086657600763:=0
def tw5501994515485831961:=0
def tw794238879763085566:=0
def tw2087829433047479124:=0
def tw16759795388500437066:=0
def tw11938205301735500750:=0
def tw9917034705644476457:=0
def tw3423052577488938190:=0
def tw18205113976882728959:=0
def tw7714933884314787272:=0
def tw4468813556325900596:=0
def tw13296948306835069604:=0
def tw11482102671217892147:=0
def tw5567065181150512706:=0
def tw2011832124854979184:=0
def tw733900270591421122:=0
def tw15528069508119202809:=0
def tw12203034231625241049:=0
def tw9527079028536963851:=0
def tw7065882806076514925:=0
def tw4461921443860336626:=0
def tw4611357082741698358:=0
def tw4242405131821474551:=0
def tw7873243945477412854:=0
def tw5088506039505044079:=0
def tw9638671184102718841:=0
def tw881111902588742636:=0
def tw10736032161849157135:=0
def tw17258472476680678460:=0
def tw484447961804742798:=0
def tw2278580746149542996:=0
def tw12071795127523611627:=0
def tw2894242321476996301:=0
def tw12821690203760263949:=0
def tw11269524476212814805:=0
def tw8234418875316106447:=0
def tw1679189406746529756:=0
def tw113319847111408818:=0
def tw9173458126534947987:=0
def tw12677057929569610531:=0
def tw9538401847056177862:=0
def tw455511291437860076:=0
def tw8774218003645288204:=0
def tw10305575735329618050:=0
def tw9943812771123043790:=0
def tw16879881743085702189:=0
def tw4961469989395901572:=0
def tw70989145726039809:=0
def tw12000911974762872867:=0
def tw5332514639359841868:=0
def tw14012756418477354849:=0
def tw9298081262088761605:=0
def tw978582475991051041:=0
def tw1897793986909719176:=0
def tw4702799325615431502:=0
def tw4285601137594668426:=0
def tw940067093439803892:=0
def tw4028422207013359239:=0
def tw633695055127343497:=0
def tw9599373537566729980:=0
def tw12536167091237050141:=0
def tw8025990747735908062:=0
def tw15849860206660950716:=0
def tw9872172870208506570:=0
def tw4774900956749213544:=0
def tw17544030118014151920:=0
def tw15129203703252703500:=0
def tw3176081080422634108:=0
def tw10874217569952161109:=0
def tw3865364441123286575:=0
def tw8937727405714023334:=0
def tw9774736998907215788:=0
def tw13558303988030102600:=0
def tw7202000658864183250:=0
def tw8941272848438735170:=0
def tw6183762409635262801:=0
def tw6096184405772283253:=0
def tw2833206342074711881:=0
def tw13158046376129908589:=0
def tw11422379272253773428:=0
def tw16680075813135982944:=0
def tw3050955825387097710:=0
def tw3735050529511205800:=0
def tw12308591036894257829:=0
def tw14018217888876591703:=0
def tw3651204322637615979:=0
def tw10156511297580072261:=0
def tw299155197473845308:=0
def tw12351346823461832735:=0
def tw2410347436620496418:=0
def tw17885992084971858441:=0
def tw16857027369532491232:=0
def tw3470458197850238005:=0
def tw17471517881493543862:=0
def tw16377541042621653872:=0
def tw11980989714155813208:=0
def tw6117043800834035811:=0
def tw16583853032809383831:=0
def tw1972324598036167837:=0
def tw17256511324226771091:=0
def tw1115825750729734518:=0
def tw10901404265701048492:=0
def tw13057280889072860658:=0
def tw16308751507485843156:=0
def tw9921739457565987336:=0
def tw7195709713281097626:=0
def tw12588403972906219054:=0
def tw4194243359165265844:=0
def tw18024955552911664216:=0
def tw370932613995653144:=0
def tw7164970258846258085:=0
def tw16375582128139960998:=0
def tw11566690736506503150:=0
def tw8156485885610380276:=0
def tw5011816258134303175:=0
def tw3826805452736079757:=0
def tw6609903109340129600:=0
def tw1865164484264251381:=0
def tw3757229556120356732:=0
def tw18308831473187677179:=0
def tw11483238659419533324:=0
def tw10651125312115907053:=0
def tw16020412823318558749:=0
def tw9554977403955661693:=0
def tw8631669642295725790:=0
def tw1445154992993921188:=0
def tw10069727859864654234:=0
def tw12960420683951154725:=0
def tw18282612371895290244:=0
def tw17123674061470713788:=0
def tw13219528468178476322:=0
def tw3960627994878511156:=0
def tw10551244198419824572:=0
def tw1813041534091734769:=0
def tw8687212398654773645:=0
def tw15222276533764837191:=0
def tw10049076069535982952:=0
def tw12931842119886790274:=0
def tw6556169634655179787:=0
def tw3953868204343063297:=0
def tw171881713062960776:=0
def tw1266341159788426086:=0
def tw2040783938004895141:=0
def tw15030564776950020963:=0
def tw8427409970024696353:=0
def tw12364671077122786930:=0
def tw15942912512694881428:=0
def tw15005267267740989322:=0
def tw12112254417811687955:=0
def tw11862523049451149051:=0
def tw9095588720555609907:=0
def tw8044309974856269671:=0
def tw18369035940653588753:=0
def tw12158064853187624202:=0
def tw12477509043581578967:=0
def tw11643085255245513891:=0
def tw1861632710509035156:=0
def tw1042684910979308120:=0
def tw17605792561564807765:=0
def tw13711883018309779634:=0
def tw1153106678300344140:=0
def tw16102426488695610769:=0
def tw7751214085978670955:=0
def tw16508127754109441407:=0
def tw10987391555983434839:=0
def tw14070936413334757623:=0
def tw6961408565413555309:=0
def tw17938333854821615686:=0
def tw11514233934326698964:=0
def tw3986576556559899150:=0
def tw12608242938290175718:=0
def tw6072633832522012030:=0
def tw17767051139704178190:=0
def tw14171737780955589092:=0
def tw8244183161801838899:=0
def tw9336970440937290119:=0
def tw16596640150888532740:=0
def tw16582099728823283925:=0
def tw351268015892375198:=0
def tw6824777407680889381:=0
def tw3174062533815054626:=0
def tw17850678650662490003:=0
def tw9171846123868926047:=0
def tw4423159536451425966:=0
def tw13842355803676433647:=0
def tw7167895495078076586:=0
def tw14759869164228430757:=0
def tw14228172402663095759:=0
def tw11932708139528083893:=0
def tw7556500510003597359:=0
def tw14733547128470189660:=0
def tw4881882934998374346:=0
def tw15706627914523474830:=0
def tw11775919162825198169:=0
def tw14119289257971366113:=0
def tw6858551217435138597:=0
def tw12265950384110108993:=0
def tw6123832193083820858:=0
def tw16293328253148842746:=0
def tw9927463049345215342:=0
def tw16944228758461432557:=0
def tw5755727249202717974:=0
def tw8342685211015362132:=0
end PySem.W.Fast
set_option compiler.extract_closed false
set_option Elab.async false
set_option linter.all false
set_option maxRecDepth 100000
open PySem renaming wpAny_bind → Yd, wpAny_pure → Yf, wpAny_mono → Ym
open PySem.Heap renaming get?_push_of_some → Ye, lt_size → Yi, get?_push_size → Yo, size_push → YO, SameBut → YX, get?_none_of_le → Xh, get?_update_other → Xn, get?_update_self → Xq
open Nat renaming le_refl → Yg, le_trans → Yn, ne_of_lt → Yu, zero_le → Yy, lt_of_lt_of_le → YC, lt_of_le_of_lt → YI, lt_succ_self → Y8, ne_of_gt → Xl
open List renaming length_map → Yh, mem_cons_of_mem → Yj, mem_append_right → Yk, mem_cons_self → Yl, mem_singleton → Yp, size_toArray → Yq, mem_cons → Yr, length_cons → Ys, getElem?_eq_some_iff → Yv, length_append → Yw, map_append → Yz, map_cons → YA, getElem?_map → YB, mem_of_getElem? → YD, take_of_length_le → YF, nodup_cons → YH, count_append → YJ, take_succ → YL, append_assoc → YM, mem_append → YN, take_length → YQ, length_nil → YR, append_nil → YS, mem_append_left → YT, length_take → YV, sum_cons → YW, length_drop → YY, length_singleton → YZ, mem_of_mem_take → Y1, not_mem_nil → Y2, length_replicate → Y3, take_append_drop → Y4, lookup_cons → Y5, drop_eq_nil_of_le → Y6, mem_map → Y7, any_cons → Y9, getElem_mem → Xd, drop_eq_getElem_cons → Xe, getElem?_eq_getElem → Xg, find?_cons → Xi, reverse_cons → Xj, count_eq_zero_of_not_mem → Xk, getElem?_append_right → Xp, nil_append → Xu, getElem?_append_left → Xv, mem_of_find?_eq_some → Xw, replicate_succ → Xx, all_eq_true → Xy, take_succ_cons → Xz, Perm → XA
open Bool renaming false_ne_true → Yt, and_eq_true → YK, false_eq_true → YU, false_and → Xo, eq_iff_iff → Xt
open Option renaming map_eq_some_iff → Yx, map_some → Y0
open PySem.PyData renaming weightAll → YE, depthAll → YG, weight → Xf, depth → XB
open Array renaming length_toList → Xm, getElem?_eq_some_iff → Xr
abbrev XC:=PySem.W.Frag
namespace L2
open PySem PySem.Spec PyProof.Rows
abbrev Key:=Sum Int Str
def gX:Key→Value→Bool
 | .inl k,v=>Value.isInt k v
 | .inr x,v=>Value.isStrOf x v
def A4(w:World):Key→Int
 | .inl k=>hashInt k
 | .inr x=>hashStr w x
theorem aM:∀ {k:Key} {v:Value},gX k v=true→(∃ i t,k=Sum.inl i∧v=Value.int i t)∨(∃ x t,k=Sum.inr x∧v=Value.str x t)
 | .inl i,v,h=>by
  obtain⟨t,e⟩:=Value.isInt_shape (k:=i) (v:=v) h
  exact .inl ⟨i,t,rfl,e⟩
 | .inr x,v,h=>by
  obtain⟨t,e⟩:=Value.isStrOf_shape (x:=x) (v:=v) h
  exact .inr ⟨x,t,rfl,e⟩
theorem qP(i:Int)(t:Tok):gX (.inl i) (.int i t)=true:=by simp [gX,Value.isInt]
theorem qO(x:Str)(t:Tok):gX (.inr x) (.str x t)=true:=by simp [gX,Value.isStrOf]
theorem zd(a b:Int):decide ((Sum.inl a:Key)=Sum.inl b)=(a==b):=by
 by_cases e:a=b
 ·subst e; simp
 ·have h:¬ (Sum.inl a:Key)=Sum.inl b:=fun q=>e (Sum.inl.inj q)
  rw [decide_eq_false h]
  exact(beq_eq_false_iff_ne.mpr e).symm
theorem y9(a b:Str):decide ((Sum.inr a:Key)=Sum.inr b)=decide (a=b):=by
 by_cases e:a=b
 ·subst e; simp
 ·have h:¬ (Sum.inr a:Key)=Sum.inr b:=fun q=>e (Sum.inr.inj q)
  rw [decide_eq_false h,decide_eq_false e]
theorem zc(a:Int)(b:Str):decide ((Sum.inl a:Key)=Sum.inr b)=false:=decide_eq_false (fun q=>nomatch q)
theorem za(a:Str)(b:Int):decide ((Sum.inr a:Key)=Sum.inl b)=false:=decide_eq_false (fun q=>nomatch q)
def az(prog:Program)(w:World):PySem.KeyKind prog w Key where
 is:=gX
 hash:=A4 w
 inj:=fun v a b ha hb=>by
  rcases aM ha with ⟨i,t,rfl,rfl⟩ | ⟨x,t,rfl,rfl⟩
  ·rcases aM hb with ⟨j,u,rfl,e⟩ | ⟨y,u,rfl,e⟩
   ·injection e with e1 _; rw [e1]
   ·exact nomatch e
  ·rcases aM hb with ⟨j,u,rfl,e⟩ | ⟨y,u,rfl,e⟩
   ·exact nomatch e
   ·injection e with e1 _; rw [e1]
 byValue:=fun k v h=>by
  rcases aM h with ⟨i,t,rfl,rfl⟩ | ⟨x,t,rfl,rfl⟩ <;> rfl
 pyHash:=fun hv h=>by
  rcases aM hv with ⟨i,t,rfl,rfl⟩ | ⟨x,t,rfl,rfl⟩
  ·exact wpAny_pyHash_int h
  ·exact wpAny_pyHash_str h
 eqBool:=fun hu hv h=>by
  rcases aM hu with ⟨i,t,rfl,rfl⟩ | ⟨x,t,rfl,rfl⟩
  ·rcases aM hv with ⟨j,u,rfl,rfl⟩ | ⟨y,u,rfl,rfl⟩
   ·rw [zd] at h; exact wpAny_eqBool_int h
   ·rw [zc] at h; exact SeqAt.EqAt.int_str i t y u _ _ _ _ h
  ·rcases aM hv with ⟨j,u,rfl,rfl⟩ | ⟨y,u,rfl,rfl⟩
   ·rw [za] at h; exact SeqAt.EqAt.str_int x t j u _ _ _ _ h
   ·rw [y9] at h; exact wpAny_eqBool_str h
 «strs»:=fun k x t v h=>by
  rcases aM h with ⟨i,u,rfl,e⟩ | ⟨y,u,rfl,e⟩
  ·exact nomatch e
  ·injection e with e1 _
   subst e1
   cases v <;> rfl
theorem mi(prog:Program)(w:World)(i:Int)(t:Tok):(az prog w).is (.inl i) (.int i t)=true:=qP i t
theorem mf(prog:Program)(w:World)(x:Str)(t:Tok):(az prog w).is (.inr x) (.str x t)=true:=qO x t
inductive V where
 | non | bl (b:Bool) | int (i:Int) | str (x:Str) | byt (b:Array UInt8) | flt (b:UInt64) | ref (a:Addr) | ty (n:String)
 deriving DecidableEq
def aq:V→Value→Prop
 | .non,u=>u=Value.none
 | .bl b,u=>u=Value.bool b
 | .int i,u=>∃ t,u=Value.int i t
 | .str x,u=>∃ t,u=Value.str x t
 | .byt b,u=>∃ t,u=Value.bytes b t
 | .flt b,u=>∃ t,u=Value.float b t
 | .ref a,u=>u=Value.ref a
 | .ty n,u=>u=Value.type n
abbrev ap:List V→List Value→Prop:=Paired aq
theorem ap.length{xs:List V}{us:List Value}(r:ap xs us):xs.length=us.length:=Paired.length r
theorem ap.get:∀ {xs:List V} {us:List Value} {i:Nat} {x:V},ap xs us→xs[i]? = some x→∃ u,us[i]? = some u∧aq x u
 | _,_,_,_,.nil,e=>by simp at e
 | _,_,0,_,.cons r _,e=>by simp at e; subst e; exact⟨_,rfl,r⟩
 | _,_,i+1,x,.cons _ t,e=>by
  obtain⟨u,h1,h2⟩:=ap.get (i:=i) (x:=x) t (by simpa using e)
  exact⟨u,by simpa using h1,h2⟩
theorem ap.set{x:V}{u:Value}(r:aq x u):∀ {xs:List V} {us:List Value} (i:Nat),ap xs us→ap (xs.set i x) (us.set i u)
 | _,_,_,.nil=>.nil
 | _,_,0,.cons _ t=>.cons r t
 | _,_,i+1,.cons q t=>.cons q (ap.set r i t)
theorem ap.append:∀ {xs ys:List V} {us ws:List Value},ap xs us→ap ys ws→ap (xs++ys) (us++ws)
 | _,_,_,_,.nil,s=>s
 | _,_,_,_,.cons r t,s=>.cons r (ap.append t s)
theorem ap.take:∀ {xs:List V} {us:List Value} (n:Nat),ap xs us→ap (xs.take n) (us.take n)
 | _,_,0,_=>.nil
 | _,_,_+1,.nil=>.nil
 | _,_,n+1,.cons r t=>.cons r (ap.take n t)
theorem ap.drop:∀ {xs:List V} {us:List Value} (n:Nat),ap xs us→ap (xs.drop n) (us.drop n)
 | _,_,0,r=>r
 | _,_,_+1,.nil=>.nil
 | _,_,n+1,.cons _ t=>ap.drop n t
def d5:Option V→Option Value→Prop
 | some v,some u=>aq v u
 | none,none=>True
 | _,_=>False
def KV{κ:Type}:List (κ×V)→List (κ×Value)→Prop:=Paired fun (p:κ×V) (q:κ×Value)=>p.1=q.1∧aq p.2 q.2
def kV:Key→V
 | .inl i=>.int i
 | .inr x=>.str x
inductive HO where
 | lst (xs:List V)
 | tup (xs:List V)
 | dK (kvs:List (Key×V)) | dT (kvs:List (List Key×V))
 | set (S:Int→Bool) (n:Nat)
 | ins (C dx:Addr) (fs:List (Str×V))
 | own (x:Addr)
 | xd (fs:List (Str×V))
 | met (f x:Addr)
 | rng (lo hi:Int)
 | frz (o:Obj) (u:HO)
 | tbl (ps:Array Value)
 | ext (φ:Heap→Prop)
abbrev Hp:=Addr→Option HO
def upd(H:Hp)(a:Addr)(o:HO):Hp:=fun b=>if b=a then some o else H b
theorem aa{H:Hp}{a:Addr}{o:HO}:upd H a o a=some o:=by unfold upd; rw [if_pos rfl]
theorem ac{H:Hp}{a b:Addr}{o:HO}(h:b≠a):upd H a o b=H b:=by unfold upd; rw [if_neg h]
theorem Al{H:Hp}{a b:Addr}{o u:HO}(h:H a=some o)(h':H b=some u)(d:o≠u):a≠b:=by
 intro e; subst e; rw [h] at h'; exact d (Option.some.inj h')
theorem ae{H:Hp}{a b:Addr}{o:HO}(h:H a=some o)(h':H b=none):a≠b:=by
 intro e; subst e; rw [h] at h'; cases h'
section
variable(P:Program)(w:World)
def aB(H:Hp)(h:Heap)(a:Addr):HO→Prop
 | .lst xs=>xs.length≤sizeLine∧∃ (its:List Value) (n:Nat),ap xs its∧h.get? a=some {cls:=.type "list",data:=.seq its.toArray n}
 | .tup xs=>xs.length≤sizeLine∧∃ its:List Value,ap xs its∧IsTup h a its.toArray
 | .dK kvs=>kvs.length≤sizeLine∧(a==sysModules)=false∧∃ vs,KV kvs vs∧h.DictOf (az P w) a vs
 | .dT kvs=>kvs.length≤sizeLine∧(a==sysModules)=false∧∃ xs:List (List Key×Addr×Value),
   Paired (fun (p:List Key×V) (q:List Key×Addr×Value)=>p.1=q.1∧H q.2.1=some (.tup (p.1.map kV))∧aq p.2 q.2.2) kvs xs∧
   ∃ o es ep,h.get? a=some o∧o.ExactDict∧o.data=.dict es ep∧es.toList=xs.map (entryOfKey (tupleKind (az P w)))∧(xs.map (·.1)).Nodup
 | .set S n=>h.SetOf (intKind P w) a S n
 | .ins C dx fs=>H dx=some (.own a)∧fs.length≤1000∧dx≠a∧h.get? a=some (PySem.W.instObj C dx)∧
   ∃ mA,h.Ns1 dx mA∧(∀ f,d5 (fs.lookup f) (mA f))∧PySem.Within mA (fs.map (·.1))
 | .own _=>∃ o,h.get? a=some o
 | .xd fs=>∃ mA,h.Ns1 a mA∧∀ f,d5 (fs.lookup f) (mA f)
 | .rng lo hi=>∃ t u v,h.get? a=some {cls:=.type "range",data:=.fields #[.int lo t,.int hi u,.int 1 v]}
 | .frz o u=>h.get? a=some o∧aB H h a u
 | .tbl ps=>h.get? a=some {cls:=.none,data:=.fields ps}
 | .met f x=>h.get? a=some (PySem.W.methodObj (.ref f) (.ref x))
 | .ext φ=>φ h∧(∃ o,h.get? a=some o)∧∀ h1 h2:Heap,φ h1→(∀ o,h1.get? a=some o→h2.get? a=some o)→φ h2
def HOk(H:Hp)(h:Heap):Prop:=∀ a o,H a=some o→aB P w H h a o
end
section
variable{P:Program}{w:World}{H H':Hp}{h h':Heap}{a:Addr}{o:HO}
theorem aB.lt(x:aB P w H h a o):a<h.objs.size:=by
 cases o with
 | lst xs=>obtain⟨_,_,_,_,e⟩:=x; exact Yi e
 | tup xs=>obtain⟨_,_,_,p⟩:=x; exact p.lt
 | dK kvs=>obtain⟨_,_,_,_,o,_,_,e,_⟩:=x; exact Yi e
 | dT kvs=>obtain⟨_,_,_,_,o,_,_,e,_⟩:=x; exact Yi e
 | set S n=>obtain⟨o,_,_,_,e,_⟩:=x; exact Yi e
 | ins C dx fs=>obtain⟨_,_,_,e,_⟩:=x; exact Yi e
 | own y=>obtain⟨_,e⟩:=x; exact Yi e
 | xd fs=>obtain⟨_,⟨_,_,_,e,_⟩,_⟩:=x; exact Yi e
 | rng lo hi=>obtain⟨_,_,_,e⟩:=x; exact Yi e
 | frz ob u=>obtain⟨e,_⟩:=x; exact Yi e
 | tbl ps=>exact Yi (show h.get? a=some _ from x)
 | met f y=>exact Yi (show h.get? a=some _ from x)
 | ext φ=>obtain⟨_,⟨_,e⟩,_⟩:=x; exact Yi e
theorem Paired.mapP{α β:Type}{F G:α→β→Prop}:∀ {l₁:List α} {l₂:List β},Paired F l₁ l₂→(∀ a b,F a b→G a b)→Paired G l₁ l₂
 | _,_,.nil,_=>.nil
 | _,_,.cons r t,f=>.cons (f _ _ r) (Paired.mapP t f)
theorem aB.stay(x:aB P w H h a o)(k:∀ b u,(b=a∨H b=some (.own a))→h.get? b=some u→h'.get? b=some u)
  (ho:∀ b,H b=some (.own a)→H' b=some (.own a)) (ht:∀ b xs,H b=some (.tup xs)→H' b=some (.tup xs)):aB P w H' h' a o:=by
 induction o with
 | lst xs=>obtain⟨z,its,n,r,e⟩:=x; exact⟨z,its,n,r,k _ _ (.inl rfl) e⟩
 | tup xs=>obtain⟨z,its,r,ob,e,c⟩:=x; exact⟨z,its,r,ob,k _ _ (.inl rfl) e,c⟩
 | dK kvs=>obtain⟨z,y,vs,r,ob,es,ep,e,c⟩:=x; exact⟨z,y,vs,r,ob,es,ep,k _ _ (.inl rfl) e,c⟩
 | dT kvs=>
  obtain⟨z,y,xs,r,ob,es,ep,e,c⟩:=x
  exact⟨z,y,xs,Paired.mapP r fun p q z=>⟨z.1,ht _ _ z.2.1,z.2.2⟩,ob,es,ep,k _ _ (.inl rfl) e,c⟩
 | set S n=>obtain⟨ob,es,ep,t,e,c⟩:=x; exact⟨ob,es,ep,t,k _ _ (.inl rfl) e,c⟩
 | ins C dx fs=>
  obtain⟨d,z,ne,e,mA,⟨od,es,ep,e2,c⟩,r⟩:=x
  exact⟨ho _ d,z,ne,k _ _ (.inl rfl) e,mA,⟨od,es,ep,k _ _ (.inr d) e2,c⟩,r⟩
 | own y=>obtain⟨ob,e⟩:=x; exact⟨ob,k _ _ (.inl rfl) e⟩
 | xd fs=>obtain⟨mA,⟨od,es,ep,e,c⟩,r⟩:=x; exact⟨mA,⟨od,es,ep,k _ _ (.inl rfl) e,c⟩,r⟩
 | rng lo hi=>obtain⟨t,u,v,e⟩:=x; exact⟨t,u,v,k _ _ (.inl rfl) e⟩
 | frz ob u ih=>obtain⟨e,q⟩:=x; exact⟨k _ _ (.inl rfl) e,ih q⟩
 | tbl ps=>
  have e:h.get? a=some {cls:=.none,data:=.fields ps}:=x
  show h'.get? a=some {cls:=.none,data:=.fields ps}
  exact k a _ (.inl rfl) e
 | met f y=>
  have e:h.get? a=some (PySem.W.methodObj (.ref f) (.ref y)):=x
  show h'.get? a=some (PySem.W.methodObj (.ref f) (.ref y))
  exact k a _ (.inl rfl) e
 | ext φ=>obtain⟨p,⟨o,e⟩,st⟩:=x; exact⟨st _ _ p fun o q=>k _ _ (.inl rfl) q,⟨o,k _ _ (.inl rfl) e⟩,st⟩
theorem HOk.lt(x:HOk P w H h)(e:H a=some o):a<h.objs.size:=(x a o e).lt
theorem HOk.fresh(x:HOk P w H h)(e:h.objs.size≤a):H a=none:=by
 cases q:H a with
 | none=>rfl
 | some u=>exact absurd (YC (x.lt q) e) (Nat.lt_irrefl _)
theorem HOk.kept(x:HOk P w H h)(k:∀ b u,h.get? b=some u→h'.get? b=some u):HOk P w H h':=fun a o e=>
 (x a o e).stay (fun b u _ q=>k b u q) (fun _ q=>q) fun _ _ q=>q
theorem HOk.laid(x:HOk P w H h)(k:∀ b u,h.get? b=some u→h'.get? b=some u)(hp:h.objs.size≤a)(new:aB P w (upd H a o) h' a o):HOk P w (upd H a o) h':=fun b u e=>by
 have hn:=x.fresh hp
 by_cases hb:b=a
 ·subst hb; rw [aa] at e; cases e; exact new
 ·rw [ac hb] at e
  exact(x b u e).stay (fun c v _ q=>k c v q) (fun c q=>by rw [ac (ae q hn)]; exact q) fun c xs q=>by rw [ac (ae q hn)]; exact q
end
def Rd(H:Hp)(a:Addr)(u:HO):Prop:=H a=some u∨∃ o,H a=some (.frz o u)
theorem Rd.ok{P:Program}{w:World}{H:Hp}{h:Heap}{a:Addr}{u:HO}(r:Rd H a u)(x:HOk P w H h):aB P w H h a u:=by
 rcases r with r | ⟨o,r⟩
 ·exact x a u r
 ·obtain⟨_,q⟩:=x a _ r
  exact q
def Mut:Option HO→Prop
 | some (.lst _)=>True
 | some (.dK _)=>True
 | some (.dT _)=>True
 | some (.set _ _)=>True
 | some (.ins _ _ _)=>True
 | some (.ext _)=>True
 | _=>False
section
variable{P:Program}{w:World}{H:Hp}{h h':Heap}{x e:Addr}{o':HO}
theorem HOk.write(ok:HOk P w H h)(mu:Mut (H x))(he:e=x∨H e=some (.own x))(k:∀ b u,b≠e→h.get? b=some u→h'.get? b=some u)(heo:∃ u,h'.get? e=some u)
  (new:aB P w (upd H x o') h' x o'):HOk P w (upd H x o') h':=fun b u q=>by
 have nown:∀ c y,H c=some (.own y)→c≠x:=fun c y r z=>by subst z; rw [r] at mu; exact mu
 have ntup:∀ c xs,H c=some (.tup xs)→c≠x:=fun c xs r z=>by subst z; rw [r] at mu; exact mu
 by_cases hb:b=x
 ·subst hb; rw [aa] at q; cases q; exact new
 ·rw [ac hb] at q
  by_cases hbe:b=e
  ·have q':H b=some (.own x):=by
    rcases he with z | z
    ·exact absurd (hbe.trans z) hb
    ·rw [hbe]; exact z
   rw [q] at q'; cases q'
   obtain⟨v,hv⟩:=heo
   exact⟨v,by rw [hbe]; exact hv⟩
  ·refine(ok b u q).stay (fun c v hc r=>k c v ?_ r) (fun c r=>by rw [ac (nown c b r)]; exact r) fun c xs r=>by rw [ac (ntup c xs r)]; exact r
   rcases hc with rfl | hc
   ·exact hbe
   ·rintro rfl
    rcases he with z | z
    ·exact nown c b hc z
    ·rw [hc] at z; cases z; exact hb rfl
end
structure Un(fs ex:List Addr)(H H':Hp)(h h':Heap):Prop where
 keep:∀ b o,h.get? b=some o→H b=none→b∉fs→b∉ex→h'.get? b=some o
 slot:∀ b o,h.get? b=some o→H b=none→b∈fs→b∉ex→∃ sl,h'.get? b=some {o with slots:=sl}
 free:∀ b o,h.get? b=some o→H b=none→b∉ex→H' b=none
 there:∀ b o,h.get? b=some o→b∉ex→∃ o',h'.get? b=some o'
 tups:∀ b xs,H b=some (.tup xs)→H' b=some (.tup xs)
 frzs:∀ b o u,H b=some (.frz o u)→H' b=some (.frz o u)
 tbls:∀ b ps,H b=some (.tbl ps)→∃ more,H' b=some (.tbl (ps++more))
section
variable{fs fs' ex ex':List Addr}{H H1 H2:Hp}{h h1 h2 h':Heap}{a x e:Addr}{o:HO}
theorem Un.any(u:Un fs ex H H1 h h1){b:Addr}{ob:Obj}(q:h.get? b=some ob)(n:H b=none)(hx:b∉ex):∃ sl,h1.get? b=some {ob with slots:=sl}:=by
 by_cases hb:b∈fs
 ·exact u.slot b ob q n hb hx
 ·exact⟨ob.slots,u.keep b ob q n hb hx⟩
theorem Un.kept(k:∀ b u,h.get? b=some u→h'.get? b=some u):Un fs ex H H h h':=
 ⟨fun b ob q _ _ _=>k b ob q,fun b ob q _ _ _=>⟨ob.slots,k b ob q⟩,fun _ _ _ n _=>n,fun b ob q _=>⟨ob,k b ob q⟩,fun _ _ q=>q,fun _ _ _ q=>q,fun _ ps q=>⟨#[],by rw [q]; simp⟩⟩
theorem Un.refl:Un fs ex H H h h:=Un.kept fun _ _ q=>q
theorem Un.laid(k:∀ b u,h.get? b=some u→h'.get? b=some u)(hp:h.objs.size≤a)(hn:H a=none):Un fs ex H (upd H a o) h h' where
 keep:=fun b u q _ _ _=>k b u q
 slot:=fun b u q _ _ _=>⟨u.slots,k b u q⟩
 free:=fun b u q n _=>by rw [ac (Yu (YC (Yi q) hp))]; exact n
 there:=fun b u q _=>⟨u,k b u q⟩
 tups:=fun b xs q=>by rw [ac (ae q hn)]; exact q
 frzs:=fun b u xs q=>by rw [ac (ae q hn)]; exact q
 tbls:=fun b ps q=>⟨#[],by rw [ac (ae q hn),q]; simp⟩
theorem Un.write(mu:Mut (H x))(he:e=x∨H e=some (.own x))(k:∀ b u,b≠e→h.get? b=some u→h'.get? b=some u)(heo:∃ u,h'.get? e=some u):Un fs ex H (upd H x o) h h':=by
 have hx:∀ b,H b=none→b≠x:=fun b n z=>by subst z; rw [n] at mu; exact mu
 have hb:∀ b,H b=none→b≠e:=fun b n z=>by
  subst z
  rcases he with r | r
  ·exact hx b n r
  ·rw [n] at r; cases r
 have hm:∀ b u,H b=some u→¬ Mut (some u)→b≠x:=fun b u q nm z=>by subst z; rw [q] at mu; exact nm mu
 refine⟨fun b u q n _ _=>k b u (hb b n) q,fun b u q n _ _=>⟨u.slots,k b u (hb b n) q⟩,fun b u q n _=>by rw [ac (hx b n)]; exact n,fun b u q _=>?_,
  fun b xs q=>by rw [ac (hm b _ q fun z=>z)]; exact q,fun b u xs q=>by rw [ac (hm b _ q fun z=>z)]; exact q,fun b ps q=>⟨#[],by rw [ac (hm b _ q fun z=>z),q]; simp⟩⟩
 by_cases hbe:b=e
 ·subst hbe; exact heo
 ·exact⟨u,k b u hbe q⟩
end
def trk(h:Heap)(H:Hp):List Addr:=(List.range h.objs.size).filter fun a=>(H a).isSome
def kS(h:Heap)(H:Hp):Heap:=PySem.W.hideAll h (trk h H)
theorem qT(h:Heap)(H:Hp):(kS h H).objs.size=h.objs.size:=PySem.W.hideAll_size _ _
theorem uU{h:Heap}{H:Hp}{b:Addr}{o:Obj}(e:h.get? b=some o)(n:H b=none):(kS h H).get? b=some o:=
 PySem.W.hideAll_get _ e fun hm=>by
  have q:(H b).isSome=true:=(List.mem_filter.mp hm).2
  rw [n] at q; simp at q
theorem wW{h:Heap}{H:Hp}{b:Addr}{o:Obj}(e:(kS h H).get? b=some o):h.get? b=some o∧H b=none:=by
 have e':h.get? b=some o:=PySem.W.of_hideAll (trk h H) e
 refine⟨e',?_⟩
 cases q:H b with
 | none=>rfl
 | some x=>
  have hm:b∈trk h H:=List.mem_filter.mpr ⟨List.mem_range.mpr (Yi e'),by simp [q]⟩
  have z:(kS h H).get? b=none:=PySem.W.hideAll_none (trk h H) hm
  rw [z] at e; cases e
def xB(g h:Heap)(L:Addr):List (Addr×Obj):=(List.range h.objs.size).filterMap fun a=>if a=L∨(g.get? a).isSome=true then none else (h.get? a).map fun o=>(a,o)
def rest(g h:Heap)(L d:Addr):List (Addr×Obj):=(xB g h L).filter fun p=>decide (p.1≠d)
structure Mod(K:XC)(mg:Str→Option Value)(base:Heap):Prop where
 kin:K.In base
 glob:base.Ns mainGlobals mg
 blt:∃ mb,base.Ns builtinsNs mb∧∀ x:Str,x≠"__name__"→mb x=bootBuiltins x
 nolimit:base.NoLimit
 sys:∃ mm,base.Ns sysModules mm
structure Cx where
 prog:Program
 w:World
 K:XC
 mg:Str→Option Value
 base:Heap
 A:Around
 N:List Str
 s₀:Shared
 H₀:Hp
 env:Env
 outer:List Env
 stack:List Env
 ex:List Addr
 fn:Str→Bool
 calm:Bool
 pn:List (Addr×Obj)
 xe:Value→Shared→Prop
def frs(l:List Env):List Addr:=l.filterMap (·.frame)
abbrev Cx.fs(X:Cx):List Addr:=frs X.outer
def Vis(sc:Scope)(x:Str):Prop:=sc.names.lookup x=some .local∨sc.names.lookup x=some .cell∨sc.names.lookup x=some .free
def Loc(sc:Scope)(x:Str):Prop:=sc.names.lookup x=some .local∨sc.names.lookup x=some .cell
def Bj(env:Env)(h:Heap)(m:Str→Option Value)(x:Str)(u:Value):Prop:=
 (env.kindOf x=some .local∧m x=some u)∨((env.kindOf x=some .cell∨env.kindOf x=some .free)∧∃ c,env.cells.lookup x=some c∧h.IsCell c (some u))
structure Cx.Ok(X:Cx):Prop where
 mod:Mod X.K X.mg X.base
 kind:X.env.scope.kind=.function
 glob:X.env.globals=mainGlobals
 blt:X.env.builtins=builtinsNs
 above:X.s₀.heap.objs.size≤X.env.locals
 inj:∀ x y c,X.env.cells.lookup x=some c→X.env.cells.lookup y=some c→x=y
 has:∀ x,(X.env.kindOf x=some .cell∨X.env.kindOf x=some .free)→∃ c,X.env.cells.lookup x=some c
 cab:∀ x c,X.fn x=true→X.env.cells.lookup x=some c→X.s₀.heap.objs.size≤c
 hd:X.calm=true→X.A.handled=none
 frames:X.A.frames=some X.stack
 stk:X.stack=X.outer∨(X.stack=X.env::X.outer∧X.env.frame=some X.env.locals)
 exf:∀ b∈X.ex,b≠X.env.locals∧∀ x c,X.env.cells.lookup x=some c→c≠b
 bs:∀ b o,X.base.get? b=some o→X.s₀.heap.get? b=some o∧X.H₀ b=none
 bsz:X.base.objs.size≤X.s₀.heap.objs.size
 noex:∀ b o,X.base.get? b=some o→b∉X.ex
 exfs:∀ b∈X.ex,b∉X.fs
 funs:X.s₀.heap.FunFrames X.base X.outer
 frf:∀ b∈X.fs,X.H₀ b=none
structure Inv(X:Cx)(pins:List (Addr×Obj))(σ:List (Option V))(H:Hp)(s:Shared):Prop where
 ok:X.Ok
 os:s.os=X.s₀.os
 bare:AllBare s.gens
 base:Un X.fs X.ex X.H₀ H X.s₀.heap s.heap
 loc:∃ m,s.heap.Ns X.env.locals m∧∀ (i:Nat) (x:Str) (v:V),X.N[i]? = some x→σ[i]? = some (some v)→Vis X.env.scope x→∃ u,aq v u∧Bj X.env s.heap m x u
 cell:∀ x c,X.env.cells.lookup x=some c→∃ v,s.heap.IsCell c v
 free:H X.env.locals=none
 freeC:∀ x c,X.env.cells.lookup x=some c→H c=none
 pin:∀ p∈X.pn++pins,s.heap.get? p.1=some p.2∧H p.1=none∧p.1≠X.env.locals∧p.1∉X.fs∧∀ v,p.2.data≠.cell v
 hok:HOk X.prog X.w H s.heap
 len:σ.length=X.N.length
section
variable{X:Cx}{pins:List (Addr×Obj)}{σ:List (Option V)}{H H':Hp}{s:Shared}{h':Heap}
theorem Cx.Ok.nofr(ok:X.Ok){b:Addr}{o:Obj}(e:X.base.get? b=some o):b∉X.fs:=fun hb=>by
 have:=(ok.funs.mem hb).1
 rw [e] at this; cases this
theorem Inv.bs(I:Inv X pins σ H s):∀ b o,X.base.get? b=some o→s.heap.get? b=some o∧H b=none:=fun b o e=>
 ⟨I.base.keep b o (I.ok.bs b o e).1 (I.ok.bs b o e).2 (I.ok.nofr e) (I.ok.noex b o e),I.base.free b o (I.ok.bs b o e).1 (I.ok.bs b o e).2 (I.ok.noex b o e)⟩
theorem Inv.bk(I:Inv X pins σ H s):∀ b o,X.base.get? b=some o→s.heap.get? b=some o:=fun b o e=>(I.bs b o e).1
theorem Inv.mod(I:Inv X pins σ H s):Mod X.K X.mg X.base:=I.ok.mod
theorem Inv.kIn(I:Inv X pins σ H s):X.K.In s.heap:=I.ok.mod.kin.keeps I.bk
theorem Inv.lt(I:Inv X pins σ H s):X.env.locals<s.heap.objs.size:=let ⟨_,hn,_⟩:=I.loc; hn.lt
theorem Inv.sz(I:Inv X pins σ H s):X.s₀.heap.objs.size≤s.heap.objs.size:=Yn I.ok.above (Nat.le_of_lt I.lt)
theorem Inv.nofs(I:Inv X pins σ H s){a:Addr}(h:s.heap.objs.size≤a):a∉X.fs:=fun hb=>by
 obtain⟨_,o,ho,_⟩:=I.ok.funs.mem hb
 exact absurd (YC (Yi ho) (Yn I.sz h)) (Nat.lt_irrefl _)
theorem Inv.cne(I:Inv X pins σ H s):∀ x c,X.env.cells.lookup x=some c→c≠X.env.locals:=fun x c e z=>by
 obtain⟨v,o,ho,hd⟩:=I.cell x c e
 obtain⟨m,⟨o',es,ep,ho',hd',_⟩,_⟩:=I.loc
 rw [z,ho'] at ho; cases ho; rw [hd'] at hd; cases hd
theorem Inv.funs(I:Inv X pins σ H s):s.heap.FunFrames X.base X.outer:=by
 have all:∀ (l:List Env),(∀ b∈frs l,b∈X.fs)→X.s₀.heap.FunFrames X.base l→s.heap.FunFrames X.base l:=by
  intro l
  induction l with
  | nil=>intro _ _; trivial
  | cons env r ih=>
   intro hs hl
   obtain⟨hk,⟨L,o,hf,hn,ho,hd⟩,hr⟩:=hl
   have hL:L∈X.fs:=hs L (by unfold frs; rw [List.filterMap_cons,hf]; exact Yl)
   obtain⟨sl,e⟩:=I.base.slot L o ho (I.ok.frf L hL) hL fun z=>I.ok.exfs L z hL
   exact⟨hk,⟨L,_,hf,hn,e,hd⟩,ih (fun b hb=>hs b (by unfold frs; rw [List.filterMap_cons,hf]; exact Yj _ hb)) hr⟩
 exact all X.outer (fun _ hb=>hb) I.ok.funs
theorem Inv.stack(I:Inv X pins σ H s):s.heap.FunFrames X.base X.stack:=by
 rcases I.ok.stk with e | ⟨e,hf⟩
 ·rw [e]; exact I.funs
 ·rw [e]
  obtain⟨m,hn,_⟩:=I.loc
  refine .cons (by rw [I.ok.kind]; decide) hf hn ?_ I.funs
  exact Xh (Yn I.ok.bsz I.ok.above)
theorem Inv.stkSub(I:Inv X pins σ H s):∀ b∈frs X.stack,b∈X.env.locals::X.fs:=fun b hb=>by
 rcases I.ok.stk with e | ⟨e,hf⟩
 ·rw [e] at hb; exact Yj _ hb
 ·rw [e] at hb
  unfold frs at hb
  rw [List.filterMap_cons,hf] at hb
  exact hb
theorem Inv.stkFree(I:Inv X pins σ H s):∀ b∈frs X.stack,H b=none:=fun b hb=>by
 rcases Yr.mp (I.stkSub b hb) with e | hb
 ·rw [e]; exact I.free
 ·obtain⟨_,o,ho,_⟩:=I.ok.funs.mem hb
  exact I.base.free b o ho (I.ok.frf b hb) fun z=>I.ok.exfs b z hb
theorem Inv.step{g':Array GenState}{t':Nat}{d':Drawn}{ch:List Addr}(I:Inv X pins σ H s)
  (hch:∀ b∈ch,(b∈X.ex∨X.s₀.heap.objs.size≤b)∧b≠X.env.locals∧(∀ x c,X.env.cells.lookup x=some c→c≠b)∧∀ p∈X.pn++pins,p.1≠b)
  (keep:∀ b o,b≠X.env.locals→b∉X.fs→b∉ch→s.heap.get? b=some o→H b=none→h'.get? b=some o)
  (slot:∀ b o,b≠X.env.locals→b∈X.fs→b∉ch→s.heap.get? b=some o→H b=none→∃ sl,h'.get? b=some {o with slots:=sl}) (free:∀ b o,b∉ch→s.heap.get? b=some o→H b=none→H' b=none)
  (there:∀ b o,b∉ch→s.heap.get? b=some o→∃ o',h'.get? b=some o')
  (tups:∀ b xs,H b=some (.tup xs)→H' b=some (.tup xs)) (frzs:∀ b o u,H b=some (.frz o u)→H' b=some (.frz o u)) (tbls:∀ b ps,H b=some (.tbl ps)→∃ more,H' b=some (.tbl (ps++more)))
  (ns:∀ m,s.heap.Ns X.env.locals m→h'.Ns X.env.locals m) (hok:HOk X.prog X.w H' h') (hg:AllBare g') :
  Inv X pins σ H' {s with heap:=h',gens:=g',drawn:=d',toks:=t'}:=by
 have neL:∀ b o,X.s₀.heap.get? b=some o→b≠X.env.locals:=fun b o e=>Yu (YC (Yi e) I.ok.above)
 have neC:∀ b o,X.s₀.heap.get? b=some o→b∉X.ex→b∉ch:=fun b o e hx hb=>by
  rcases(hch b hb).1 with z | z
  ·exact hx z
  ·exact absurd (YC (Yi e) z) (Nat.lt_irrefl _)
 have cellK:∀ x c,X.env.cells.lookup x=some c→∀ v,s.heap.IsCell c v→h'.IsCell c v:=fun x c e v ⟨o,ho,hd⟩=>by
  have nch:c∉ch:=fun z=>(hch c z).2.2.1 x c e rfl
  by_cases hc:c∈X.fs
  ·obtain⟨sl,q⟩:=slot c o (I.cne x c e) hc nch ho (I.freeC x c e)
   exact⟨_,q,hd⟩
  ·exact⟨o,keep c o (I.cne x c e) hc nch ho (I.freeC x c e),hd⟩
 refine⟨I.ok,I.os,hg,⟨fun b o e n hb hx=>?_,fun b o e n hb hx=>?_,fun b o e n hx=>?_,fun b o e hx=>?_,fun b xs e=>tups b xs (I.base.tups b xs e),fun b o xs e=>frzs b o xs (I.base.frzs b o xs e),fun b ps e=>?_⟩,?_,fun x c e=>?_,?_,fun x c e=>?_,fun p hp=>?_,hok,I.len⟩
 ·exact keep b o (neL b o e) hb (neC b o e hx) (I.base.keep b o e n hb hx) (I.base.free b o e n hx)
 ·obtain⟨sl,e1⟩:=I.base.slot b o e n hb hx
  obtain⟨sl',e2⟩:=slot b _ (neL b o e) hb (neC b o e hx) e1 (I.base.free b o e n hx)
  exact⟨sl',e2⟩
 ·obtain⟨o',e1⟩:=I.base.there b o e hx
  exact free b o' (neC b o e hx) e1 (I.base.free b o e n hx)
 ·obtain⟨o',e1⟩:=I.base.there b o e hx
  exact there b o' (neC b o e hx) e1
 ·obtain⟨m1,e1⟩:=I.base.tbls b ps e
  obtain⟨m2,e2⟩:=tbls b _ e1
  exact⟨m1++m2,by rw [e2,Array.append_assoc]⟩
 ·obtain⟨m,hn,hl⟩:=I.loc
  refine⟨m,ns m hn,fun i x v e1 e2 e3=>?_⟩
  obtain⟨u,r,l⟩:=hl i x v e1 e2 e3
  refine⟨u,r,?_⟩
  rcases l with l | ⟨k,c,e,z⟩
  ·exact .inl l
  ·exact .inr ⟨k,c,e,cellK x c e _ z⟩
 ·obtain⟨v,z⟩:=I.cell x c e
  exact⟨v,cellK x c e v z⟩
 ·obtain⟨m,⟨o,_,_,ho,_⟩,_⟩:=I.loc
  exact free _ o (fun z=>(hch _ z).2.1 rfl) ho I.free
 ·obtain⟨v,o,ho,hd⟩:=I.cell x c e
  exact free c o (fun z=>(hch c z).2.2.1 x c e rfl) ho (I.freeC x c e)
 ·obtain⟨e,n,ne,nf,d⟩:=I.pin p hp
  have nch:p.1∉ch:=fun z=>(hch p.1 z).2.2.2 p hp rfl
  exact⟨keep p.1 p.2 ne nf nch e n,free p.1 p.2 nch e n,ne,nf,d⟩
theorem Inv.un{t':Nat}(I:Inv X pins σ H s)(u:Un X.fs [] H H' s.heap h')(hok:HOk X.prog X.w H' h'):Inv X pins σ H' {s with heap:=h',toks:=t'}:=by
 obtain⟨m,⟨o,es,ep,ho,r⟩,_⟩:=id I.loc
 obtain⟨sl,hL⟩:=u.any ho I.free (by simp)
 exact I.step (g':=s.gens) (d':=s.drawn) (ch:=[]) (fun _ z=>nomatch z) (fun b o _ hb _ e n=>u.keep b o e n hb (by simp)) (fun b o _ hb _ e n=>u.slot b o e n hb (by simp)) (fun b o _ e n=>u.free b o e n (by simp)) (fun b o _ e=>u.there b o e (by simp)) u.tups u.frzs u.tbls (fun m' hm=>by
  obtain⟨o',es',ep',ho',r'⟩:=hm
  rw [ho] at ho'; cases ho'
  exact⟨_,es',ep',hL,r'⟩) hok I.bare
theorem Inv.call{g':Array GenState}{t':Nat}{d':Drawn}{ch:List Addr}(I:Inv X pins σ H s)(u:Un (frs X.stack) ch H H' s.heap h')(hok:HOk X.prog X.w H' h')(hg:AllBare g')
  (hch:∀ b∈ch,(b∈X.ex∨X.s₀.heap.objs.size≤b)∧b≠X.env.locals∧(∀ x c,X.env.cells.lookup x=some c→c≠b)∧∀ p∈X.pn++pins,p.1≠b) :
  Inv X pins σ H' {s with heap:=h',gens:=g',drawn:=d',toks:=t'}:=by
 obtain⟨m,⟨o,es,ep,ho,r⟩,_⟩:=id I.loc
 obtain⟨sl,hL⟩:=u.any ho I.free fun z=>(hch _ z).2.1 rfl
 exact I.step (ch:=ch) hch (fun b o hL hb hc e n=>u.keep b o e n (fun z=>(Yr.mp (I.stkSub b z)).elim hL hb) hc) (fun b o _ _ hc e n=>u.any e n hc) (fun b o hc e n=>u.free b o e n hc) (fun b o hc e=>u.there b o e hc) u.tups u.frzs u.tbls (fun m' hm=>by
  obtain⟨o',es',ep',ho',r'⟩:=hm
  rw [ho] at ho'; cases ho'
  exact⟨_,es',ep',hL,r'⟩) hok hg
theorem Inv.turned{t':Nat}{it:Addr}(I:Inv X pins σ H s)(k:∀ b o,b≠it→s.heap.get? b=some o→h'.get? b=some o)(hn:H it=none)(hL:it≠X.env.locals)
  (h1:it∈X.ex∨X.s₀.heap.objs.size≤it) (h2:∀ x c,X.env.cells.lookup x=some c→c≠it) (h3:∀ p∈X.pn++pins,p.1≠it):Inv X pins σ H {s with heap:=h',toks:=t'}:=by
 have nit:∀ b u,H b=some u→b≠it:=fun b u e z=>by rw [z,hn] at e; cases e
 refine I.step (g':=s.gens) (d':=s.drawn) (ch:=[it]) (fun b hb=>?_) (fun b o _ _ hc e _=>k b o (fun z=>hc (by simp [z])) e) (fun b o _ _ hc e _=>⟨o.slots,k b o (fun z=>hc (by simp [z])) e⟩) (fun _ _ _ _ n=>n)
  (fun b o hc e=>⟨o,k b o (fun z=>hc (by simp [z])) e⟩) (fun _ _ e=>e) (fun _ _ _ e=>e) (fun b ps e=>⟨#[],by rw [e]; simp⟩) (fun m hm=>?_) (fun b u e=>?_) I.bare
 ·have e:b=it:=by simpa using hb
  subst e
  exact⟨h1,hL,h2,h3⟩
 ·obtain⟨o,es,ep,ho,r⟩:=hm
  exact⟨o,es,ep,k _ o (Ne.symm hL) ho,r⟩
 ·refine(I.hok b u e).stay (fun c v hc q=>k c v ?_ q) (fun _ q=>q) fun _ _ q=>q
  rcases hc with z | z
  ·rw [z]; exact nit b u e
  ·exact nit c _ z
theorem Inv.tok(I:Inv X pins σ H s)(t:Nat):Inv X pins σ H {s with toks:=t}:=I.un (h':=s.heap) (t':=t) Un.refl I.hok
theorem Inv.kept{t':Nat}(I:Inv X pins σ H s)(k:∀ b u,s.heap.get? b=some u→h'.get? b=some u):Inv X pins σ H {s with heap:=h',toks:=t'}:=I.un (Un.kept k) (I.hok.kept k)
theorem Inv.laid{a:Addr}{o:HO}{t':Nat}(I:Inv X pins σ H s)(k:∀ b u,s.heap.get? b=some u→h'.get? b=some u)(hp:s.heap.objs.size≤a)(new:aB X.prog X.w (upd H a o) h' a o):
  Inv X pins σ (upd H a o) {s with heap:=h',toks:=t'}:=I.un (Un.laid k hp (I.hok.fresh hp)) (I.hok.laid k hp new)
theorem Inv.write{x e:Addr}{o:HO}{t':Nat}(I:Inv X pins σ H s)(mu:Mut (H x))(he:e=x∨H e=some (.own x))(k:∀ b u,b≠e→s.heap.get? b=some u→h'.get? b=some u)(heo:∃ u,h'.get? e=some u)
  (new:aB X.prog X.w (upd H x o) h' x o):Inv X pins σ (upd H x o) {s with heap:=h',toks:=t'}:=I.un (Un.write mu he k heo) (I.hok.write mu he k heo new)
theorem Inv.pins_of{pins':List (Addr×Obj)}(I:Inv X pins σ H s)(h:∀ p∈pins',s.heap.get? p.1=some p.2∧H p.1=none∧p.1≠X.env.locals∧p.1∉X.fs∧∀ v,p.2.data≠.cell v):Inv X pins' σ H s:=
 ⟨I.ok,I.os,I.bare,I.base,I.loc,I.cell,I.free,I.freeC,fun p hp=>(YN.mp hp).elim (fun z=>I.pin p (YT _ z)) (h p),I.hok,I.len⟩
theorem fX{N:List Str}(hN:N.Nodup){i j:Nat}{x:Str}(a:N[i]? = some x)(b:N[j]? = some x):i=j:=by
 obtain⟨h1,e1⟩:=Yv.mp a
 obtain⟨h2,e2⟩:=Yv.mp b
 exact(List.getElem_inj hN).mp (e1.trans e2.symm)
theorem gt{M:Model}{A:Around}{E:Value→Shared→Prop}{i:Nat}{x:Str}{v:V}{u:Value}{Q:Unit→Shared→Prop}(I:Inv X pins σ H s)(hN:X.N.Nodup)(hi:X.N[i]? = some x)(hx:Loc X.env.scope x)(r:aq v u)
  (h:∀ s',Inv X pins (σ.set i (some v)) H s'→(∃ a,YX a s.heap s'.heap∧(a=X.env.locals∨X.env.cells.lookup x=some a))→Q () s') (hf:X.fn x=true∨X.env.scope.names.lookup x=some .local:=by first | exact .inl rfl | exact .inr rfl | assumption):wpAny M A (storeName X.env x u) Q E s:=by
 obtain⟨m,hn,hl⟩:=id I.loc
 have hcls:(X.env.scope.kind==.class||(X.env.scope.kind==.module&&X.env.locals != X.env.globals))=false:=by rw [I.ok.kind]; rfl
 have hiσ:i<σ.length:=by rw [I.len]; exact(Yv.mp hi).1
 have cne:=I.cne
 have tracked:∀ {a:Addr} {h':Heap},(∃ o,s.heap.get? a=some o∧H a=none)→YX a s.heap h'→HOk X.prog X.w H h':=fun {a h'} ha hs b ob e=>by
  obtain⟨_,_,hfree⟩:=ha
  refine(I.hok b ob e).stay (fun c w' hc q=>(hs.2 c ?_).trans q) (fun _ q=>q) fun _ _ q=>q
  rintro rfl
  rcases hc with rfl | hc
  ·rw [hfree] at e; cases e
  ·rw [hfree] at hc; cases hc
 rcases hx with hk | hk
 ·refine wpAny_storeName_local hk hn (fun h' hn' hs=>?_) hcls
  obtain⟨oL,_,_,hoL,_⟩:=id hn
  refine h _ ⟨I.ok,I.os,I.bare,⟨fun b o e n hb hx=>?_,fun b o e n hb hx=>?_,I.base.free,fun b o e hx=>?_,I.base.tups,I.base.frzs,I.base.tbls⟩,⟨_,hn',fun j y v' e1 e2 e3=>?_⟩,fun y c e=>?_,I.free,I.freeC,fun p hp=>?_,tracked ⟨oL,hoL,I.free⟩ hs,by simpa using I.len⟩ ⟨_,hs,.inl rfl⟩
  ·exact(hs.2 b (Yu (YC (Yi e) I.ok.above))).trans (I.base.keep b o e n hb hx)
  ·obtain⟨sl,e1⟩:=I.base.slot b o e n hb hx
   exact⟨sl,(hs.2 b (Yu (YC (Yi e) I.ok.above))).trans e1⟩
  ·obtain⟨o',e1⟩:=I.base.there b o e hx
   exact⟨o',(hs.2 b (Yu (YC (Yi e) I.ok.above))).trans e1⟩
  ·by_cases hj:j=i
   ·subst hj
    rw [hi] at e1; cases e1
    rw [List.getElem?_set_self hiσ] at e2
    cases e2
    exact⟨u,r,.inl ⟨hk,by simp⟩⟩
   ·rw [List.getElem?_set_ne (Ne.symm hj)] at e2
    obtain⟨u',r',q⟩:=hl j y v' e1 e2 e3
    refine⟨u',r',?_⟩
    rcases q with ⟨k,e⟩ | ⟨k,c,e,z⟩
    ·refine .inl ⟨k,?_⟩
     have : y≠x:=fun e=>hj (fX hN e1 (e▸hi))
     simp [this,e]
    ·exact .inr ⟨k,c,e,z.sameBut hs (cne y c e)⟩
  ·obtain⟨w',z⟩:=I.cell y c e
   exact⟨w',z.sameBut hs (cne y c e)⟩
  ·obtain⟨e,n,ne,nf,d⟩:=I.pin p hp
   exact⟨(hs.2 p.1 ne).trans e,n,ne,nf,d⟩
 ·have hfn:X.fn x=true:=by
   rcases hf with z | z
   ·exact z
   ·rw [z] at hk; cases hk
  obtain⟨c,hc⟩:=I.ok.has x (.inl hk)
  obtain⟨w',z⟩:=I.cell x c hc
  refine wpAny_storeName_cell I.ok.kind hk hc z (fun h' hc' hs=>?_)
  obtain⟨oc,hoc,hocd⟩:=id z
  refine h {s with heap:=h'} ⟨I.ok,I.os,I.bare,⟨fun b o e n hb hx=>?_,fun b o e n hb hx=>?_,I.base.free,fun b o e hx=>?_,I.base.tups,I.base.frzs,I.base.tbls⟩,⟨m,hn.sameBut hs (Ne.symm (cne x c hc)),fun j y v' e1 e2 e3=>?_⟩,fun y c' e=>?_,I.free,I.freeC,fun p hp=>?_,tracked ⟨oc,hoc,I.freeC x c hc⟩ hs,by simpa using I.len⟩ ⟨c,hs,.inr hc⟩
  ·exact(hs.2 b (Yu (YC (Yi e) (I.ok.cab x c hfn hc)))).trans (I.base.keep b o e n hb hx)
  ·obtain⟨sl,e1⟩:=I.base.slot b o e n hb hx
   exact⟨sl,(hs.2 b (Yu (YC (Yi e) (I.ok.cab x c hfn hc)))).trans e1⟩
  ·obtain⟨o',e1⟩:=I.base.there b o e hx
   exact⟨o',(hs.2 b (Yu (YC (Yi e) (I.ok.cab x c hfn hc)))).trans e1⟩
  ·by_cases hj:j=i
   ·subst hj
    rw [hi] at e1; cases e1
    rw [List.getElem?_set_self hiσ] at e2
    cases e2
    exact⟨u,r,.inr ⟨.inl hk,c,hc,hc'⟩⟩
   ·rw [List.getElem?_set_ne (Ne.symm hj)] at e2
    obtain⟨u',r',q⟩:=hl j y v' e1 e2 e3
    refine⟨u',r',?_⟩
    rcases q with q | ⟨k,c',e,z'⟩
    ·exact .inl q
    ·refine .inr ⟨k,c',e,z'.sameBut hs ?_⟩
     rintro rfl
     exact hj (fX hN e1 (I.ok.inj _ _ _ e hc▸hi))
  ·by_cases hcc:c'=c
   ·subst hcc; exact⟨_,hc'⟩
   ·obtain⟨w2,z2⟩:=I.cell y c' e
    exact⟨w2,z2.sameBut hs hcc⟩
  ·obtain⟨e,n,ne,nf,d⟩:=I.pin p hp
   refine⟨(hs.2 p.1 ?_).trans e,n,ne,nf,d⟩
   intro q
   rw [q,hoc] at e
   have q':oc=p.2:=Option.some.inj e
   exact d w' (by rw [← q']; exact hocd)
theorem cT{M:Model}{A:Around}{E:Value→Shared→Prop}{i:Nat}{x:Str}{v:V}{u:Value}{Q:Unit→Shared→Prop}(I:Inv X pins σ H s)(hN:X.N.Nodup)(hi:X.N[i]? = some x)(hx:Loc X.env.scope x)(r:aq v u)
  (h:∀ s',Inv X pins (σ.set i (some v)) H s'→Q () s') (hf:X.fn x=true∨X.env.scope.names.lookup x=some .local:=by first | exact .inl rfl | exact .inr rfl | assumption):wpAny M A (storeName X.env x u) Q E s:=
 gt I hN hi hx r (fun s' I' _=>h s' I') hf
theorem Inv.call'{s':Shared}{ch:List Addr}(I:Inv X pins σ H s)(ho:s'.os=s.os)(u:Un (frs X.stack) ch H H' s.heap s'.heap)(hok:HOk X.prog X.w H' s'.heap)(hg:AllBare s'.gens)
  (hch:∀ b∈ch,(b∈X.ex∨X.s₀.heap.objs.size≤b)∧b≠X.env.locals∧(∀ x c,X.env.cells.lookup x=some c→c≠b)∧∀ p∈X.pn++pins,p.1≠b):Inv X pins σ H' s':=by
 obtain⟨h',g',d',t',o'⟩:=s'
 have e:o'=s.os:=ho
 subst e
 exact I.call (g':=g') (t':=t') (d':=d') u hok hg hch
end
abbrev XK:=Value→Option Addr→Hp→Prop
abbrev St:=List (Option V)
abbrev VK:=V→Hp→Prop
abbrev TE:=St→Hp→VK→Prop
abbrev TT:=St→Hp→(Bool→Hp→Prop)→Prop
abbrev TA:=St→Hp→(List V→Hp→Prop)→Prop
structure dJ where
 nx:St→Hp→Prop
 rt:VK
 bk:St→Hp→Prop:=fun _ _=>False
 ct:St→Hp→Prop:=fun _ _=>False
abbrev TS:=dJ→St→Hp→Prop
def EP(X:Cx)(pins:List (Addr×Obj))(σ:St)(Q:VK)(u:Value)(s':Shared):Prop:=∃ v H',Inv X pins σ H' s'∧aq v u∧Q v H'
def TP(X:Cx)(pins:List (Addr×Obj))(σ:St)(Q:Bool→Hp→Prop)(b:Bool)(s':Shared):Prop:=∃ H',Inv X pins σ H' s'∧Q b H'
def AP(X:Cx)(pins:List (Addr×Obj))(σ:St)(Q:List V→Hp→Prop)(us:List Value)(s':Shared):Prop:=∃ vs H',Inv X pins σ H' s'∧ap vs us∧Q vs H'
def SP(X:Cx)(pins:List (Addr×Obj))(D:dJ)(f:Flow)(s':Shared):Prop:=
 match f with
 | .next=>∃ σ' H',Inv X pins σ' H' s'∧D.nx σ' H'
 | .brk=>∃ σ' H',Inv X pins σ' H' s'∧D.bk σ' H'
 | .cont=>∃ σ' H',Inv X pins σ' H' s'∧D.ct σ' H'
 | .ret u=>∃ v σ' H',Inv X pins σ' H' s'∧aq v u∧D.rt v H'
def PE(X:Cx)(e:Expr)(t:TE):Prop:=
 ∀ (pins:List (Addr×Obj)) (s:Shared) (σ:St) (H:Hp) (Q:VK),Inv X pins σ H s→t σ H Q→wpAny (model X.prog X.w) X.A (eval e X.env) (EP X pins σ Q) X.xe s
def PT(X:Cx)(e:Expr)(t:TT):Prop:=
 ∀ (pins:List (Addr×Obj)) (s:Shared) (σ:St) (H:Hp) (Q:Bool→Hp→Prop),Inv X pins σ H s→t σ H Q→wpAny (model X.prog X.w) X.A (isTrue e X.env (eval e X.env)) (TP X pins σ Q) X.xe s
def PW(X:Cx)(e:Expr)(t:TT):Prop:=
 ∀ (whole:Sem Value) (pins:List (Addr×Obj)) (s:Shared) (σ:St) (H:Hp) (Q:Bool→Hp→Prop),Inv X pins σ H s→t σ H Q→wpAny (model X.prog X.w) X.A (isTrue e X.env whole) (TP X pins σ Q) X.xe s
theorem PW.pt{X:Cx}{e:Expr}{t:TT}(h:PW X e t):PT X e t:=h _
def PA(X:Cx)(es:List Expr)(t:TA):Prop:=
 ∀ (pos:Pos) (pins:List (Addr×Obj)) (s:Shared) (σ:St) (H:Hp) (Q:List V→Hp→Prop),Inv X pins σ H s→t σ H Q→wpAny (model X.prog X.w) X.A (spliced (backTo pos (starEach es X.env))) (AP X pins σ Q) X.xe s
def PS(X:Cx)(st:Stmt)(t:TS):Prop:=
 ∀ (pins:List (Addr×Obj)) (s:Shared) (σ:St) (H:Hp) (D:dJ),Inv X pins σ H s→t D σ H→wpAny (model X.prog X.w) X.A (exec st X.env) (SP X pins D) X.xe s
def PSs(X:Cx)(st:List Stmt)(t:TS):Prop:=
 ∀ (pins:List (Addr×Obj)) (s:Shared) (σ:St) (H:Hp) (D:dJ),Inv X pins σ H s→t D σ H→wpAny (model X.prog X.w) X.A (execs st X.env) (SP X pins D) X.xe s
theorem thn{α:Type}{t:Sem α}{Q Q':α→Shared→Prop}{M:Model}{A:Around}{E:Value→Shared→Prop}{s:Shared}(h:wpAny M A t Q E s)(hQ:∀ a s,Q a s→Q' a s):wpAny M A t Q' E s:=Ym h hQ fun _ _ x=>x
section
variable{X:Cx}
inductive tVar(i:Nat)(σ:St)(H:Hp)(Q:VK):Prop | mk (v) (_:σ[i]? = some (some v)) (_:Q v H)
def tC(v:V):TE:=fun _ H Q=>Q v H
theorem tE{i:Nat}{x:Str}{pos:Pos}(hN:X.N[i]? = some x)(hv:Vis X.env.scope x)(hd:(x==("__debug__":Str))=false:=by decide)(hcd:(x==("__classdict__":Str))=false:=by decide):PE X (.Name x pos) (tVar i):=by
 intro pins s σ H Q I h
 obtain⟨v,e,h⟩:=h
 obtain⟨m,hn,hl⟩:=I.loc
 obtain⟨u,r,l⟩:=hl i x v hN e hv
 have fin:EP X pins σ Q u s:=⟨v,H,I,r,h⟩
 rcases l with ⟨hk,hm⟩ | ⟨hk,c,hc,hcell⟩
 ·exact wpAny_Name (wpAny_loadName_local I.ok.kind hk hn hm fin) hd
 ·rcases hk with hk | hk
  ·exact wpAny_Name (wpAny_loadName_cell I.ok.kind hk hc hcell fin) hd
  ·exact wpAny_Name (wpAny_loadName_free I.ok.kind hk hc hcell fin hcd) hd
theorem ei{i j pos}:PE X (.Constant (.int i) j pos) (tC (.int i)):=fun _ _ _ H _ I h=>wpAny_Constant_int ⟨.int i,H,I.tok _,⟨_,rfl⟩,h⟩
theorem xP{b j pos}:PE X (.Constant (.bool b) j pos) (tC (.bl b)):=fun _ _ _ H _ I h=>Constant_bool ⟨.bl b,H,I,rfl,h⟩
theorem tH{j pos}:PE X (.Constant .none j pos) (tC .non):=fun _ _ _ H _ I h=>Constant_none ⟨.non,H,I,rfl,h⟩
theorem eh{x j pos}:PE X (.Constant (.str x) j pos) (tC (.str x)):=fun _ _ _ H _ I h=>Calls.Constant_str ⟨.str x,H,I.tok _,⟨_,rfl⟩,h⟩
def Gl(X:Cx)(x:Str):Prop:=X.env.kindOf x=some .globalImplicit
theorem eM{E:Value→Shared→Prop}{pins:List (Addr×Obj)}{s:Shared}{σ:St}{H:Hp}{x:Str}{u:Value}{pos:Pos}{Q:Value→Shared→Prop}(I:Inv X pins σ H s)(hg:Gl X x)(hm:X.mg x=some u)(h:Q u s)
  (hd:(x==("__debug__":Str))=false:=by decide):wpAny (model X.prog X.w) X.A (eval (.Name x pos) X.env) Q E s:=
 Calls.Name_function_global I.ok.kind hg (Calls.loadGlobal_global (by rw [I.ok.glob]; exact I.mod.glob.keeps I.bk) hm h) hd
theorem gH{E:Value→Shared→Prop}{pins:List (Addr×Obj)}{s:Shared}{σ:St}{H:Hp}{x:Str}{u:Value}{pos:Pos}{Q:Value→Shared→Prop}(I:Inv X pins σ H s)(hg:Gl X x)(hm:X.mg x=none)(hv:bootBuiltins x=some u)(h:Q u s)
  (hn:x≠"__name__":=by decide) (hd:(x==("__debug__":Str))=false:=by decide):wpAny (model X.prog X.w) X.A (eval (.Name x pos) X.env) Q E s:=by
 obtain⟨mb,h1,h2⟩:=I.mod.blt
 exact Calls.Name_function_global I.ok.kind hg (Calls.loadGlobal_builtin (by rw [I.ok.glob]; exact I.mod.glob.keeps I.bk) hm (by rw [I.ok.blt]; exact h1.keeps I.bk) ((h2 x hn).trans hv) h) hd
theorem cy{x:Str}{v:V}{u:Value}{pos:Pos}(hg:Gl X x)(hm:X.mg x=some u)(r:aq v u)(hd:(x==("__debug__":Str))=false:=by decide):PE X (.Name x pos) (tC v):=
 fun _ _ _ H _ I h=>eM I hg hm ⟨v,H,I,r,h⟩ hd
theorem eJ{x:Str}{v:V}{u:Value}{pos:Pos}(hg:Gl X x)(hm:X.mg x=none)(hv:bootBuiltins x=some u)(r:aq v u)(hn:x≠"__name__":=by decide)(hd:(x==("__debug__":Str))=false:=by decide):PE X (.Name x pos) (tC v):=
 fun _ _ _ H _ I h=>gH I hg hm hv ⟨v,H,I,r,h⟩ hn hd
variable{a b:Expr}{ta tb:TE}{pos:Pos}
def PC(X:Cx)(op:CmpOp)(a b:Expr)(t:TE):Prop:=
 ∀ (pins:List (Addr×Obj)) (s:Shared) (σ:St) (H:Hp) (Q:VK),Inv X pins σ H s→t σ H Q→
  wpAny (model X.prog X.w) X.A (eval a X.env) (fun v s₁=>wpAny (model X.prog X.w) X.A (eval b X.env) (fun u s₂=>wpAny (model X.prog X.w) X.A (compareOp op v u) (EP X pins σ Q) X.xe s₂) X.xe s₁) X.xe s
inductive tBI(Q:Bool→Hp→Prop)(x:V)(H1:Hp):Prop | mk (c) (_:x=.bl c) (_:Q c H1)
def tB(t:TE):TT:=fun σ H Q=>t σ H (tBI Q)
theorem yw{op:CmpOp}{t:TE}(h:PC X op a b t)(h1:behindInMarks op b=false:=by first | exact nobehind _ (by decide) (by decide) | rfl):PT X (.Compare a [op] [b] pos) (tB t):=by
 intro pins s σ H Q I hw
 refine wpAny_isTrue_Compare1 (thn (h pins s σ H _ I hw) fun v s1 h1=>thn h1 fun u s2 h2=>thn h2 fun c s3 ⟨x,H1,I1,r1,q1⟩=>?_) h1
 obtain⟨d,rfl,q⟩:=q1
 cases r1
 exact wpAny_truthy_bool ⟨H1,I1,q⟩
theorem nO{e:Expr}{t:TE}(h:PE X e t)(he:∀ whole,isTrue e X.env whole=(do let v ← whole; standAt e.pos; holding [v] (truthy v)):=by intro _; rfl):PT X e (tB t):=by
 intro pins s σ H Q I hw
 refine isTrue_plain (thn (h pins s σ H _ I hw) fun v s1 ⟨x,H1,I1,r1,q1⟩=>?_) (he _)
 obtain⟨d,rfl,q⟩:=q1
 cases r1
 exact wpAny_truthy_bool ⟨H1,I1,q⟩
variable{tA tB':TT}{rest:List Expr}
def AV(t u:TT):TT:=fun σ H Q=>t σ H fun c H1=>if c=true then u σ H1 Q else Q false H1
def tOr(t u:TT):TT:=fun σ H Q=>t σ H fun c H1=>if c=true then Q true H1 else u σ H1 Q
def AQ(t:TT):TT:=fun σ H Q=>t σ H fun c H1=>Q (!c) H1
theorem vS(ha:PT X a tA):PW X (.BoolOp .And [a] pos) tA:=by
 intro wh pins s σ H Q I h
 refine isTrue_and (thn (ha pins s σ H Q I h) fun c s1 e=>?_)
 cases c with
 | true=>exact isTrue_and_nil e
 | false=>exact e
theorem nN(ha:PT X a tA):PW X (.BoolOp .Or [a] pos) tA:=by
 intro wh pins s σ H Q I h
 refine isTrue_or (thn (ha pins s σ H Q I h) fun c s1 e=>?_)
 cases c with
 | false=>exact isTrue_or_nil e
 | true=>exact e
theorem yv(ha:PT X a tA)(hb:PW X (.BoolOp .And (b::rest) pos) tB'):PW X (.BoolOp .And (a::b::rest) pos) (AV tA tB'):=by
 intro wh pins s σ H Q I h
 refine isTrue_and (thn (ha pins s σ H _ I h) fun c s1 ⟨H1,I1,q1⟩=>?_)
 cases c with
 | true=>exact hb wh pins s1 σ H1 Q I1 q1
 | false=>exact⟨H1,I1,q1⟩
theorem sV(ha:PT X a tA)(hb:PW X (.BoolOp .Or (b::rest) pos) tB'):PW X (.BoolOp .Or (a::b::rest) pos) (tOr tA tB'):=by
 intro wh pins s σ H Q I h
 refine isTrue_or (thn (ha pins s σ H _ I h) fun c s1 ⟨H1,I1,q1⟩=>?_)
 cases c with
 | true=>exact⟨H1,I1,q1⟩
 | false=>exact hb wh pins s1 σ H1 Q I1 q1
theorem kF(ha:PT X a tA):PT X (.UnaryOp .Not a pos) (AQ tA):=by
 intro pins s σ H Q I h
 exact isTrue_not (ha pins s σ H (fun c H1=>Q (!c) H1) I h)
inductive tAndVI(tb:TE)(σ:St)(Q:VK)(x:V)(H1:Hp):Prop | mk (c) (_:x=.bl c) (_:if c=true then tb σ H1 Q else Q (.bl false) H1)
def zT(ta tb:TE):TE:=fun σ H Q=>ta σ H (tAndVI tb σ Q)
inductive tOrVI(tb:TE)(σ:St)(Q:VK)(x:V)(H1:Hp):Prop | mk (c) (_:x=.bl c) (_:if c=true then Q (.bl true) H1 else tb σ H1 Q)
def AO(ta tb:TE):TE:=fun σ H Q=>ta σ H (tOrVI tb σ Q)
inductive tNotVI(Q:VK)(x:V)(H1:Hp):Prop | mk (c) (_:x=.bl c) (_:Q (.bl (!c)) H1)
def zM(ta:TE):TE:=fun σ H Q=>ta σ H (tNotVI Q)
theorem yI{op}{t:TE}(h:PE X a t):PE X (.BoolOp op [a] pos) t:=fun pins s σ H Q I hw=>BoolOp_one (h pins s σ H Q I hw)
theorem yL(ha:PE X a ta)(hb:PE X (.BoolOp .And (b::rest) pos) tb):PE X (.BoolOp .And (a::b::rest) pos) (zT ta tb):=by
 intro pins s σ H Q I h
 refine BoolOp_and (thn (ha pins s σ H _ I h) fun v s1 ⟨x,H1,I1,r1,q1⟩=>?_)
 obtain⟨c,rfl,q1⟩:=q1
 cases r1
 refine wpAny_truthy_bool ?_
 cases c with
 | true=>exact hb pins s1 σ H1 Q I1 q1
 | false=>exact⟨.bl false,H1,I1,rfl,q1⟩
theorem zX(ha:PE X a ta)(hb:PE X (.BoolOp .Or (b::rest) pos) tb):PE X (.BoolOp .Or (a::b::rest) pos) (AO ta tb):=by
 intro pins s σ H Q I h
 refine BoolOp_or (thn (ha pins s σ H _ I h) fun v s1 ⟨x,H1,I1,r1,q1⟩=>?_)
 obtain⟨c,rfl,q1⟩:=q1
 cases r1
 refine wpAny_truthy_bool ?_
 cases c with
 | false=>exact hb pins s1 σ H1 Q I1 q1
 | true=>exact⟨.bl true,H1,I1,rfl,q1⟩
theorem tG(ha:PE X a ta):PE X (.UnaryOp .Not a pos) (zM ta):=by
 intro pins s σ H Q I h
 refine UnaryOp_ (thn (ha pins s σ H _ I h) fun v s1 ⟨x,H1,I1,r1,q1⟩=>?_)
 obtain⟨c,rfl,q1⟩:=q1
 cases r1
 exact not_of (wpAny_truthy_bool ⟨.bl (!c),H1,I1,rfl,q1⟩)
def tIf(t:TT)(ta tb:TE):TE:=fun σ H Q=>t σ H fun c H1=>if c=true then ta σ H1 Q else tb σ H1 Q
theorem tJ{c:Expr}(hc:PT X c tA)(ha:PE X a ta)(hb:PE X b tb):PE X (.IfExp c a b pos) (tIf tA ta tb):=by
 intro pins s σ H Q I h
 refine wpAny_IfExp (thn (hc pins s σ H _ I h) fun d s1 ⟨H1,I1,q1⟩=>?_)
 cases d with
 | true=>exact ha pins s1 σ H1 Q I1 q1
 | false=>exact hb pins s1 σ H1 Q I1 q1
end
def SqL(K:XC)(H:Hp)(a:Addr)(xs:List V):Prop:=
 Rd H a (.lst xs)∨
  ∃ (o:Obj) (its:Array Value) (n:Nat),K.lookup a=some o∧o.cls=.type "list"∧o.dict=none∧o.data=.seq its n∧its.size≤sizeLine∧ap xs its.toList
def SqT(K:XC)(H:Hp)(a:Addr)(xs:List V):Prop:=
 Rd H a (.tup xs)∨
  ∃ (o:Obj) (its:Array Value) (n:Nat),K.lookup a=some o∧o.cls=.type "tuple"∧o.data=.seq its n∧its.size≤sizeLine∧ap xs its.toList
def Bh:Value→Option V
 | .none=>some .non
 | .bool b=>some (.bl b)
 | .int i _=>some (.int i)
 | .str x _=>some (.str x)
 | .bytes b _=>some (.byt b)
 | .float b _=>some (.flt b)
 | .ref a=>some (.ref a)
 | .type n=>some (.ty n)
 | _=>none
theorem aq.abs{x:V}{u:Value}(r:aq x u):Bh u=some x:=by
 cases x with
 | non=>cases r; rfl
 | bl _=>cases r; rfl
 | int _=>obtain⟨t,rfl⟩:=r; rfl
 | str _=>obtain⟨t,rfl⟩:=r; rfl
 | byt _=>obtain⟨t,rfl⟩:=r; rfl
 | flt _=>obtain⟨t,rfl⟩:=r; rfl
 | ref _=>cases r; rfl
 | ty _=>cases r; rfl
theorem aq.inj{x y:V}{u:Value}(r:aq x u)(q:aq y u):x=y:=Option.some.inj (r.abs.symm.trans q.abs)
theorem ap.inj:∀ {xs ys:List V} {us:List Value},ap xs us→ap ys us→xs=ys
 | _,_,_,.nil,.nil=>rfl
 | _,_,_,.cons r t,.cons r' t'=>by rw [r.inj r',ap.inj t t']
section
variable{X:Cx}{pins:List (Addr×Obj)}{σ:St}{H:Hp}{s:Shared}{a:Addr}{xs ys:List V}
theorem SqL.of{K:XC}(h:H a=some (.lst xs)):SqL K H a xs:=.inl (.inl h)
theorem SqT.of{K:XC}(h:H a=some (.tup xs)):SqT K H a xs:=.inl (.inl h)
theorem Inv.list(I:Inv X pins σ H s)(h:SqL X.K H a xs):∃ its:List Value,ap xs its∧PlainL s.heap a its.toArray∧xs.length≤sizeLine:=by
 rcases h with h | ⟨o,its,n,hk,hc,hd,hs,hz,r⟩
 ·obtain⟨z,its,n,r,e⟩:=h.ok I.hok
  exact⟨its,r,⟨_,n,e,rfl,rfl,rfl⟩,z⟩
 ·refine⟨its.toList,r,⟨o,n,I.kIn a o hk,hc,hd,by simpa using hs⟩,?_⟩
  have e:=r.length
  simp only [Xm] at e
  omega
theorem Inv.tuple(I:Inv X pins σ H s)(h:SqT X.K H a xs):∃ its:List Value,ap xs its∧IsTup s.heap a its.toArray∧xs.length≤sizeLine:=by
 rcases h with h | ⟨o,its,n,hk,hc,hs,hz,r⟩
 ·obtain⟨z,its,r,p⟩:=h.ok I.hok
  exact⟨its,r,p,z⟩
 ·refine⟨its.toList,r,⟨o,I.kIn a o hk,hc,n,by simpa using hs⟩,?_⟩
  have e:=r.length
  simp only [Xm] at e
  omega
theorem Inv.list_inj(I:Inv X pins σ H s)(h:SqL X.K H a xs)(h':SqL X.K H a ys):xs=ys:=by
 obtain⟨its,r,⟨o,n,e,_,_,d⟩,_⟩:=I.list h
 obtain⟨its',r',⟨o',n',e',_,_,d'⟩,_⟩:=I.list h'
 rw [e] at e'; cases e'
 rw [d] at d'
 injection d' with d1 _
 have : its=its':=by simpa using congrArg Array.toList d1
 subst this
 exact r.inj r'
theorem Inv.tuple_inj(I:Inv X pins σ H s)(h:SqT X.K H a xs)(h':SqT X.K H a ys):xs=ys:=by
 obtain⟨its,r,⟨o,e,_,n,d⟩,_⟩:=I.tuple h
 obtain⟨its',r',⟨o',e',_,n',d'⟩,_⟩:=I.tuple h'
 rw [e] at e'; cases e'
 rw [d] at d'
 injection d' with d1 _
 have : its=its':=by simpa using congrArg Array.toList d1
 subst this
 exact r.inj r'
end
abbrev Cx.wish(X:Cx)(E:Value→Shared→Prop):Cx:={X with xe:=E}
abbrev Cx.nox(X:Cx):Cx:=X.wish fun _ _=>False
theorem Cx.Ok.wish{X:Cx}(ok:X.Ok)(E:Value→Shared→Prop):(X.wish E).Ok:=
 ⟨ok.mod,ok.kind,ok.glob,ok.blt,ok.above,ok.inj,ok.has,ok.cab,ok.hd,ok.frames,ok.stk,ok.exf,ok.bs,ok.bsz,ok.noex,ok.exfs,ok.funs,ok.frf⟩
theorem Cx.Ok.unwish{X:Cx}{E:Value→Shared→Prop}(ok:(X.wish E).Ok):X.Ok:=
 ⟨ok.mod,ok.kind,ok.glob,ok.blt,ok.above,ok.inj,ok.has,ok.cab,ok.hd,ok.frames,ok.stk,ok.exf,ok.bs,ok.bsz,ok.noex,ok.exfs,ok.funs,ok.frf⟩
section
variable{X:Cx}{pins:List (Addr×Obj)}{σ:St}{H:Hp}{s:Shared}{E:Value→Shared→Prop}
theorem Inv.wish(I:Inv X pins σ H s)(E:Value→Shared→Prop):Inv (X.wish E) pins σ H s:=⟨I.ok.wish E,I.os,I.bare,I.base,I.loc,I.cell,I.free,I.freeC,I.pin,I.hok,I.len⟩
theorem Inv.unwish(I:Inv (X.wish E) pins σ H s):Inv X pins σ H s:=⟨I.ok.unwish,I.os,I.bare,I.base,I.loc,I.cell,I.free,I.freeC,I.pin,I.hok,I.len⟩
theorem SP.unwish{D:dJ}{f:Flow}{s':Shared}(h:SP (X.wish E) pins D f s'):SP X pins D f s':=by
 cases f with
 | next=>obtain⟨σ',H',I,q⟩:=h; exact⟨σ',H',I.unwish,q⟩
 | brk=>obtain⟨σ',H',I,q⟩:=h; exact⟨σ',H',I.unwish,q⟩
 | cont=>obtain⟨σ',H',I,q⟩:=h; exact⟨σ',H',I.unwish,q⟩
 | ret u=>obtain⟨v,σ',H',I,r,q⟩:=h; exact⟨v,σ',H',I.unwish,r,q⟩
theorem PE.nox{e:Expr}{t:TE}(h:PE X.nox e t):PE X e t:=fun pins s σ H Q I hw=>
 Ym (h pins s σ H Q (I.wish _) hw) (fun _ _ ⟨v,H',I',r,q⟩=>⟨v,H',I'.unwish,r,q⟩) fun _ _ z=>False.elim z
theorem PT.nox{e:Expr}{t:TT}(h:PT X.nox e t):PT X e t:=fun pins s σ H Q I hw=>
 Ym (h pins s σ H Q (I.wish _) hw) (fun _ _ ⟨H',I',q⟩=>⟨H',I'.unwish,q⟩) fun _ _ z=>False.elim z
theorem PSs.nox{st:List Stmt}{t:TS}(h:PSs X.nox st t):PSs X st t:=fun pins s σ H D I hw=>
 Ym (h pins s σ H D (I.wish _) hw) (fun _ _ q=>q.unwish) fun _ _ z=>False.elim z
end
section
variable{X:Cx}{st:Stmt}{rest:List Stmt}{t u:TS}{e:Expr}{te:TE}{pos:Pos}
def xM:TS:=fun D σ H=>D.nx σ H
def ql(t u:TS):TS:=fun D σ H=>t {D with nx:=u D} σ H
theorem fU:PSs X [] xM:=fun _ _ σ H _ I h=>wpAny_execs_nil ⟨σ,H,I,h⟩
theorem cD(h1:PS X st t)(h2:PSs X rest u):PSs X (st::rest) (ql t u):=by
 intro pins s σ H D I h
 refine wpAny_execs_cons (thn (h1 pins s σ H {D with nx:=u D} I h) fun f s1 q=>?_)
 cases f with
 | next=>
  obtain⟨σ',H',I',q⟩:=q
  exact h2 pins s1 σ' H' D I' q
 | ret v=>exact q
 | brk=>exact q
 | cont=>exact q
theorem ba(h1:PS X st t):PSs X [st] t:=by
 intro pins s σ H D I h
 refine wpAny_execs_cons (thn (h1 pins s σ H D I h) fun f s1 q=>?_)
 cases f with
 | next=>exact wpAny_execs_nil q
 | ret v=>exact q
 | brk=>exact q
 | cont=>exact q
theorem Inv.quiet{pins:List (Addr×Obj)}{σ:St}{H:Hp}{s:Shared}(I:Inv X pins σ H s):interactive X.env=false:=by simp [interactive,I.ok.kind]
def zQ(te:TE):TS:=fun D σ H=>te σ H fun _ H1=>D.nx σ H1
theorem ib(he:PE X e te)(hs:swapsWith e none pos.line X.env=pure false:=by rfl):PS X (.Expr e pos) (zQ te):=by
 intro pins s σ H D I h
 exact wpAny_Expr_any (thn (he pins s σ H _ I h) fun v s1 ⟨x,H1,I1,r1,q1⟩=>⟨σ,H1,I1,q1⟩) I.quiet hs
def zK(te:TE):TS:=fun D σ H=>te σ H D.rt
theorem iO(he:PE X e te):PS X (.Return (some e) pos) (zK te):=by
 intro pins s σ H D I h
 exact wpAny_Return_some (thn (he pins s σ H _ I h) fun v s1 ⟨x,H1,I1,r1,q1⟩=>⟨x,σ,H1,I1,r1,q1⟩)
def AS(c:TT)(t u:TS):TS:=fun D σ H=>c σ H fun b H1=>if b=true then t D σ H1 else u D σ H1
theorem iQ{c:Expr}{a b:List Stmt}{tc:TT}(hc:PT X c tc)(ha:PSs X a t)(hb:PSs X b u):PS X (.If c a b pos) (AS tc t u):=by
 intro pins s σ H D I h
 refine wpAny_If (thn (hc pins s σ H _ I h) fun d s1 ⟨H1,I1,q1⟩=>?_)
 cases d with
 | true=>exact ha pins s1 σ H1 D I1 q1
 | false=>exact hb pins s1 σ H1 D I1 q1
def yc:TS:=fun _ _ _=>False
theorem tf:PS X st yc:=fun _ _ _ _ _ _ h=>h.elim
end
abbrev TG:=V→St→Hp→(St→Hp→Prop)→Prop
abbrev TGs:=List V→St→Hp→(St→Hp→Prop)→Prop
def PG(X:Cx)(target:Expr)(t:TG):Prop:=
 ∀ (pins:List (Addr×Obj)) (s:Shared) (σ:St) (H:Hp) (v:V) (u:Value) (Q:St→Hp→Prop),Inv X pins σ H s→aq v u→t v σ H Q→
  wpAny (model X.prog X.w) X.A (assign target X.env u) (fun _ s'=>∃ σ' H',Inv X pins σ' H' s'∧Q σ' H') X.xe s
def PGs(X:Cx)(ts:List Expr)(t:TGs):Prop:=
 ∀ (pins:List (Addr×Obj)) (s:Shared) (σ:St) (H:Hp) (vs:List V) (us:List Value) (Q:St→Hp→Prop),Inv X pins σ H s→ap vs us→t vs σ H Q→
  wpAny (model X.prog X.w) X.A (assignInOrder ((assignEach ts X.env).map (·.2)) us) (fun _ s'=>∃ σ' H',Inv X pins σ' H' s'∧Q σ' H') X.xe s
abbrev vD:=V→V→V→Hp→(Hp→Prop)→Prop
def zC(X:Cx)(t:vD):Prop:=
 ∀ (pins:List (Addr×Obj)) (s:Shared) (σ:St) (H:Hp) (o i v:V) (ov iv u:Value) (Q:Hp→Prop),Inv X pins σ H s→aq o ov→aq i iv→aq v u→t o i v H Q→
  wpAny (model X.prog X.w) X.A (setItem ov iv u) (fun _ s'=>∃ H',Inv X pins σ H' s'∧Q H') X.xe s
abbrev TIp:=V→V→Hp→VK→Prop
def PIp(X:Cx)(op:Operator)(t:TIp):Prop:=
 ∀ (pins:List (Addr×Obj)) (s:Shared) (σ:St) (H:Hp) (x y:V) (v u:Value) (Q:VK),Inv X pins σ H s→aq x v→aq y u→t x y H Q→
  wpAny (model X.prog X.w) X.A (inplaceOp op v u) (EP X pins σ Q) X.xe s
section
variable{X:Cx}{pos:Pos}
def cG(i:Nat):TG:=fun v σ H Q=>Q (σ.set i (some v)) H
theorem kG{i:Nat}{x:Str}(hN:X.N.Nodup)(hi:X.N[i]? = some x)(hx:Loc X.env.scope x)(hf:X.fn x=true∨X.env.scope.names.lookup x=some .local:=by first | exact .inl rfl | exact .inr rfl | assumption):PG X (.Name x pos) (cG i):=by
 intro pins s σ H v u Q I r h
 exact wpAny_assign_Name (cT I hN hi hx r (fun s' I'=>⟨_,H,I',h⟩) hf)
def As:TGs:=fun vs σ H Q=>vs=[]∧Q σ H
inductive gCons(t:TG)(u:TGs)(vs:List V)(σ:St)(H:Hp)(Q:St→Hp→Prop):Prop | mk (v r) (_:vs=v::r) (_:t v σ H fun σ' H'=>u r σ' H' Q)
theorem pj:PGs X [] As:=by
 intro pins s σ H vs us Q I r h
 obtain⟨e,h⟩:=h
 subst e
 cases r
 exact assignInOrder_nil ⟨σ,H,I,h⟩
theorem lL{e:Expr}{es:List Expr}{t:TG}{u:TGs}(h1:PG X e t)(h2:PGs X es u)
  (hs:(assignEach (e::es) X.env).map (·.2)=assign e X.env::(assignEach es X.env).map (·.2):=by rfl):PGs X (e::es) (gCons t u):=by
 intro pins s σ H vs us Q I r h
 obtain⟨v,vr,e1,h⟩:=h
 subst e1
 cases r with
 | cons r rr=>
  rw [hs]
  refine assignInOrder_cons (thn (h1 pins s σ H _ _ _ I r h) fun _ s1 ⟨σ1,H1,I1,q1⟩=>?_)
  exact h2 pins s1 σ1 H1 _ _ Q I1 rr q1
inductive gTup(K:XC)(n:Nat)(t:TGs)(v:V)(σ:St)(H:Hp)(Q:St→Hp→Prop):Prop | mk (a xs) (_:v=.ref a) (_:SqT K H a xs) (_:xs.length=n) (_:t xs σ H Q)
theorem nR{es:List Expr}{k:Nat}{t:TGs}{n:Nat}(hc:X.calm=true)(h:PGs X es t)
  (hn:(assignEach es X.env).length=n:=by rfl) (hst:(assignEach es X.env).findIdx? (·.1)=none:=by rfl):PG X (.Tuple es k pos) (gTup X.K n t):=by
 intro pins s σ H v u Q I r hw
 obtain⟨a,xs,e1,hq,hl,hw⟩:=hw
 subst e1
 cases r
 obtain⟨its,rv,ht,hz⟩:=I.tuple hq
 refine assign_Tuple_tuple (I.ok.hd hc) ht (by simp [hn,← hl,rv.length]) hst fun h' hx=>?_
 have I1:Inv X pins σ H {s with heap:=h'}:=I.kept (t':=s.toks) fun b o e=>hx b o (Yu (Yi e)) e
 exact h pins _ σ H xs _ Q I1 (by simpa using rv) hw
def A8(to ti:TE)(t:vD):TG:=fun v σ H Q=>to σ H fun o H1=>ti σ H1 fun i H2=>t o i v H2 fun H3=>Q σ H3
theorem yG{o i:Expr}{to ti:TE}{t:vD}(ho:PE X o to)(hi:PE X i ti)(hs:zC X t)
  (ha:∀ v,assign (.Subscript o i pos) X.env v=(do
   let ov ← holding [v] (eval o X.env)
   let iv ← holding [v,ov] (eval i X.env)
   standAt pos
   holding [v,ov,iv] (setItem ov iv v)
   release [v,ov,iv] []):=by intro _; rfl):PG X (.Subscript o i pos) (A8 to ti t):=by
 intro pins s σ H v u Q I r h
 rw [ha]
 refine Yd (wpAny_holding (thn (ho pins s σ H _ I h) fun ov s1 ⟨x,H1,I1,r1,q1⟩=>?_))
 refine Yd (wpAny_holding (thn (hi pins s1 σ H1 _ I1 q1) fun iv s2 ⟨y,H2,I2,r2,q2⟩=>?_))
 refine Yd (wpAny_standAt (Yd (wpAny_holding (thn (hs pins s2 σ H2 x y v ov iv u _ I2 r1 r2 r q2) fun _ s3 ⟨H3,I3,q3⟩=>?_))))
 exact wpAny_release ⟨σ,H3,I3,q3⟩
def nj(te:TE)(g:TG):TS:=fun D σ H=>te σ H fun x H1=>g x σ H1 D.nx
theorem yC{tg e:Expr}{te:TE}{g:TG}(he:PE X e te)(hg:PG X tg g)(hs:swapsWithSole [tg] e pos.line X.env=pure false:=by rfl)(hw:swappedStores [tg] e X.env=pure none:=by rfl)
  (h1:(assignEach [tg] X.env).map (·.2)=[assign tg X.env]:=by rfl):PS X (.Assign [tg] e pos) (nj te g):=by
 intro pins s σ H D I h
 refine wpAny_Assign_stores (thn (he pins s σ H _ I h) fun v s1 ⟨x,H1,I1,r1,q1⟩=>?_) hs hw
 rw [h1]
 exact thn (hg pins s1 σ H1 x v _ I1 r1 q1) fun _ s2 q=>q
theorem iN{i:Nat}{x:Str}{e:Expr}{te:TE}{pos':Pos}(hN:X.N.Nodup)(hi:X.N[i]? = some x)(hx:Loc X.env.scope x)(he:PE X e te)(hs:swapsWith e (some (.Name x pos')) pos.line X.env=pure false:=by rfl)(hf:X.fn x=true∨X.env.scope.names.lookup x=some .local:=by first | exact .inl rfl | exact .inr rfl | assumption):
  PS X (.Assign [.Name x pos'] e pos) (nj te (cG i)):=by
 intro pins s σ H D I h
 refine wpAny_Assign_Name (thn (he pins s σ H _ I h) fun v s1 ⟨y,H1,I1,r1,q1⟩=>?_) hs
 exact cT I1 hN hi hx r1 (fun s2 I2=>⟨_,H1,I2,q1⟩) hf
inductive tParI(i j:Nat)(D:dJ)(σ:St)(vs:List V)(H1:Hp):Prop | mk (v w) (_:vs=[v,w]) (_:D.nx ((σ.set i (some v)).set j (some w)) H1)
def AN(i j:Nat)(ta:TA):TS:=fun D σ H=>ta σ H (tParI i j D σ)
theorem yx{i j:Nat}{x y:Str}{a b:Expr}{ta:TA}{px py pt:Pos}{kt k2 pt2}(hc:X.calm=true)(hN:X.N.Nodup)(hi:X.N[i]? = some x)(hj:X.N[j]? = some y)(hij:i≠j)
  (hx:X.env.scope.names.lookup x=some .local) (hy:X.env.scope.names.lookup y=some .local) (ha:PA X [a,b] ta)
  (hw:swappedStores [.Tuple [.Name x px,.Name y py] kt pt] (.Tuple [a,b] k2 pt2) X.env=pure (some [x,y]))
  (hs:swapsWithSole [.Tuple [.Name x px,.Name y py] kt pt] (.Tuple [a,b] k2 pt2) pos.line X.env=pure false:=by rfl) :
  PS X (.Assign [.Tuple [.Name x px,.Name y py] kt pt] (.Tuple [a,b] k2 pt2) pos) (AN i j ta):=by
 intro pins s σ H D I h
 rw [exec_Assign_arm]
 refine Yd (wpAny_standAt ?_)
 rw [hs]
 refine Yd (Yf ?_)
 rw [if_neg (by decide)]
 refine Yd (Tuple_ (thn (ha _ pins s σ H _ I h) fun us s1 ⟨vs,H1,I1,r1,q1⟩=>?_))
 obtain⟨v,w,e1,q1⟩:=q1
 subst e1
 obtain⟨u1,u2,rfl,rv,rw'⟩:∃ u1 u2,us=[u1,u2]∧aq v u1∧aq w u2:=by
  cases r1 with
  | cons p q=>
   cases q with
   | cons p' q'=>
    cases q'
    exact⟨_,_,rfl,p,p'⟩
 refine wpAny_newObj_type ?_ (by show 2≤sizeLine; decide)
 have I2:Inv X pins σ H1 {s1 with heap:=s1.heap.push {cls:=.type "tuple",data:=.seq [u1,u2].toArray}}:=I1.kept (t':=s1.toks) fun b o e=>Ye _ e
 rw [hw]
 refine Yd (Yf ?_)
 show wpAny (model X.prog X.w) X.A (do rule "assign.swapped-stores"; let items ← unpackItems (.ref s1.heap.objs.size) 2 none; assignInOrder [fun v=>bindName X.env y v,fun v=>bindName X.env x v] items.reverse; pure Flow.next) _ _ _
 refine Yd (wpAny_rule (Yd (unpackItems_tuple (items:=#[u1,u2]) (I.ok.hd hc) (IsTup.new s1.heap _) fun h' hx'=>?_)))
 have I3:=I2.kept (h':=h') (t':=s1.toks) fun b o e=>hx' b o (Yu (Yi e)) e
 show wpAny _ _ (assignInOrder [fun v=>bindName X.env y v,fun v=>bindName X.env x v] [u2,u1]>>=fun _=>pure Flow.next) _ _ _
 refine Yd (assignInOrder_cons (wpAny_bindName (cT I3 hN hj (.inl hy) rw' (fun s2 I4=>?_) (.inr hy))))
 refine assignInOrder_cons (wpAny_bindName (cT I4 hN hi (.inl hx) rv (fun s3 I5=>assignInOrder_nil (Yf ?_)) (.inr hx)))
 rw [List.set_comm _ _ (Ne.symm hij)] at I5
 exact⟨_,H1,I5,q1⟩
inductive tAug(i:Nat)(te:TE)(ti:TIp)(D:dJ)(σ:St)(H:Hp):Prop | mk (x) (_:σ[i]? = some (some x)) (_:te σ H fun y H1=>ti x y H1 fun z H2=>D.nx (σ.set i (some z)) H2)
theorem yB{i:Nat}{x:Str}{e:Expr}{te:TE}{op:Operator}{ti:TIp}{pos':Pos}(hN:X.N.Nodup)(hi:X.N[i]? = some x)(hx:Loc X.env.scope x)(he:PE X e te)(ho:PIp X op ti)(hf:X.fn x=true∨X.env.scope.names.lookup x=some .local:=by first | exact .inl rfl | exact .inr rfl | assumption):
  PS X (.AugAssign (.Name x pos') op e pos) (tAug i te ti):=by
 intro pins s σ H D I h
 obtain⟨v,e1,h⟩:=h
 obtain⟨m,hn,hl⟩:=I.loc
 have vis:Vis X.env.scope x:=by rcases hx with k | k; exact .inl k; exact .inr (.inl k)
 obtain⟨u,r,l⟩:=hl i x v hi e1 vis
 refine wpAny_AugAssign_Name ?_
 have go:wpAny (model X.prog X.w) X.A (eval e X.env) (fun w s₂=>wpAny (model X.prog X.w) X.A (inplaceOp op u w) (fun r s₃=>wpAny (model X.prog X.w) X.A (storeName X.env x r) (fun _=>SP X pins D .next) X.xe s₃) X.xe s₂) X.xe s:=by
  refine thn (he pins s σ H _ I h) fun w s1 ⟨y,H1,I1,r1,q1⟩=>?_
  refine thn (ho pins s1 σ H1 v y u w _ I1 r r1 q1) fun z s2 ⟨zv,H2,I2,r2,q2⟩=>?_
  exact cT I2 hN hi hx r2 (fun s3 I3=>⟨_,H2,I3,q2⟩) hf
 rcases l with ⟨hk,hm⟩ | ⟨hk,c,hc,hcell⟩
 ·exact wpAny_loadName_local I.ok.kind hk hn hm go
 ·rcases hk with hk | hk
  ·exact wpAny_loadName_cell I.ok.kind hk hc hcell go
  ·rcases hx with k | k
   ·have : X.env.scope.names.lookup x=some .free:=hk
    rw [k] at this; cases this
   ·have : X.env.scope.names.lookup x=some .free:=hk
    rw [k] at this; cases this
def zS(to ti te:TE)(tget:V→V→Hp→VK→Prop)(tip:TIp)(tset:vD):TS:=fun D σ H=>to σ H fun o H1=>ti σ H1 fun i H2=>tget o i H2 fun x H3=>te σ H3 fun y H4=>tip x y H4 fun z H5=>tset o i z H5 fun H6=>D.nx σ H6
def AD(X:Cx)(t:V→V→Hp→VK→Prop):Prop:=
 ∀ (pins:List (Addr×Obj)) (s:Shared) (σ:St) (H:Hp) (o i:V) (ov iv:Value) (Q:VK),Inv X pins σ H s→aq o ov→aq i iv→t o i H Q→
  wpAny (model X.prog X.w) X.A (getItem ov iv) (EP X pins σ Q) X.xe s
theorem vZ{o i e:Expr}{to ti te:TE}{tget:V→V→Hp→VK→Prop}{tip:TIp}{tset:vD}{op:Operator}{tpos:Pos}(ho:PE X o to)(hi:PE X i ti)(hg:AD X tget)(he:PE X e te)(hp:PIp X op tip)(hs:zC X tset)
  (ha:∀ ov iv new,augStore i ov iv new=(do holding [new,ov,iv] (setItem ov iv new); release [new,ov,iv] []; pure .next):=by intros; rfl):PS X (.AugAssign (.Subscript o i tpos) op e pos) (zS to ti te tget tip tset):=by
 intro pins s σ H D I h
 refine wpAny_AugAssign_SubscriptAny (thn (ho pins s σ H _ I h) fun ov s1 ⟨x1,H1,I1,r1,q1⟩=>?_) ha
 refine thn (hi pins s1 σ H1 _ I1 q1) fun iv s2 ⟨x2,H2,I2,r2,q2⟩=>?_
 refine thn (hg pins s2 σ H2 x1 x2 ov iv _ I2 r1 r2 q2) fun old s3 ⟨x3,H3,I3,r3,q3⟩=>?_
 refine thn (he pins s3 σ H3 _ I3 q3) fun v s4 ⟨x4,H4,I4,r4,q4⟩=>?_
 refine thn (hp pins s4 σ H4 x3 x4 old v _ I4 r3 r4 q4) fun new s5 ⟨x5,H5,I5,r5,q5⟩=>?_
 exact thn (hs pins s5 σ H5 x1 x2 x5 ov iv new _ I5 r1 r2 r5 q5) fun _ s6 ⟨H6,I6,q6⟩=>⟨σ,H6,I6,q6⟩
inductive ipI(f:Int→Int→Int)(x y:V)(H:Hp)(Q:VK):Prop | mk (i j) (_:x=.int i) (_:y=.int j) (_:Q (.int (f i j)) H)
theorem uQ:PIp X .Add (ipI fun i j=>i+j):=by
 intro pins s σ H x y v u Q I r1 r2 h
 obtain⟨i,j,e1,e2,q⟩:=h
 subst e1; subst e2
 obtain⟨t,rfl⟩:=r1
 obtain⟨t',rfl⟩:=r2
 exact iadd_int ⟨.int _,H,I.tok _,⟨_,rfl⟩,q⟩
theorem uP:PIp X .Sub (ipI fun i j=>i-j):=by
 intro pins s σ H x y v u Q I r1 r2 h
 obtain⟨i,j,e1,e2,q⟩:=h
 subst e1; subst e2
 obtain⟨t,rfl⟩:=r1
 obtain⟨t',rfl⟩:=r2
 exact isub_int ⟨.int _,H,I.tok _,⟨_,rfl⟩,q⟩
end
section
variable{X:Cx}{pos:Pos}
inductive tWhile(c:TT)(tb:TS)(D:dJ)(σ:St)(H:Hp):Prop | mk (W:Nat→St→Hp→Prop) (_:(∃ m,W m σ H)) (_:∀ m σ H,W m σ H→c σ H fun b H1=>if b=true then ∃ N:St→Hp→Prop,(∀ σ' H',N σ' H'→∃ m',m'<m∧W m' σ' H')∧tb {D with nx:=N,ct:=N,bk:=D.nx} σ H1 else D.nx σ H1)
theorem sY{c:Expr}{body:List Stmt}{tc:TT}{tb:TS}(hp:PassesOwn (model X.prog X.w) X.A X.env X.xe)(hc:PT X c tc)(hb:PSs X body tb):PS X (.While c body [] pos) (tWhile tc tb):=by
 intro pins s σ H D I h
 obtain⟨W,⟨m0,w0⟩,turn⟩:=h
 refine wpAny_While (codeAny_whileLoop (fun n s'=>∃ σ' H',Inv X pins σ' H' s'∧W n σ' H') ?_ m0 ⟨σ,H,I,w0⟩)
 rintro n s1 ⟨σ1,H1,I1,w1⟩
 refine wpAny_passesOwn hp (thn (hc pins s1 σ1 H1 _ I1 (turn n σ1 H1 w1)) fun b s2 ⟨H2,I2,q2⟩=>?_)
 cases b with
 | true=>
  obtain⟨N,hN,q2⟩:=q2
  rw [if_pos rfl]
  refine wpAny_passesOwn hp (thn (hb pins s2 σ1 H2 _ I2 q2) fun f s3 q3=>?_)
  cases f with
  | next=>
   obtain⟨σ3,H3,I3,n3⟩:=q3
   obtain⟨m',hm,w3⟩:=hN σ3 H3 n3
   exact⟨m',hm,σ3,H3,I3,w3⟩
  | cont=>
   obtain⟨σ3,H3,I3,n3⟩:=q3
   obtain⟨m',hm,w3⟩:=hN σ3 H3 n3
   exact⟨m',hm,σ3,H3,I3,w3⟩
  | brk=>exact q3
  | ret v=>exact q3
 | false=>
  rw [if_neg Yt]
  exact wpAny_execs_nil ⟨σ1,H2,I2,q2⟩
end
structure It where
 go:Nat→Hp→Prop
 yld:Nat→Hp→V→Hp→Prop
 stop:Nat→Hp→Prop
def dy(X:Cx)(pins:List (Addr×Obj))(H:Hp)(b:Addr):Prop:=
 H b=none∧b≠X.env.locals∧b∉X.fs∧(b∈X.ex∨X.s₀.heap.objs.size≤b)∧(∀ x c,X.env.cells.lookup x=some c→c≠b)∧∀ p∈X.pn++pins,p.1≠b
theorem Inv.fpOk{X:Cx}{pins:List (Addr×Obj)}{σ:St}{H H':Hp}{s:Shared}{b:Addr}(I:Inv X pins σ H s)(hb:s.heap.objs.size≤b)(hn:H' b=none):dy X pins H' b:=by
 refine⟨hn,Xl (YC I.lt hb),I.nofs hb,.inr (Yn I.sz hb),fun x c e z=>?_,fun p hp z=>?_⟩
 ·obtain⟨v,q⟩:=I.cell x c e
  exact absurd (YC q.lt (by rw [z]; exact hb)) (Nat.lt_irrefl _)
 ·exact absurd (YC (Yi (I.pin p hp).1) (by rw [z]; exact hb)) (Nat.lt_irrefl _)
structure hV(P:Program)(w:World)(K:XC)(tg:Expr)(J:It)(fp:List Addr)(it:Addr)(tn:Nat→Heap→Prop):Prop where
 mem:it∈fp
 obj:∀ i h,tn i h→∀ b∈fp,∃ o,h.get? b=some o∧∀ v,o.data≠.cell v
 keep:∀ i h h',tn i h→(∀ b∈fp,∀ o,h.get? b=some o→h'.get? b=some o)→tn i h'
 item:∀ (X:Cx),X.prog=P→X.w=w→X.K=K→X.calm=true→∀ (i:Nat) (pins:List (Addr×Obj)) (s:Shared) (σ:St) (H:Hp) (E:Value→Shared→Prop),Inv X pins σ H s→(∀ b∈fp,dy X pins H b)→tn i s.heap→J.go i H→
  wpAny (model P w) X.A (pyNext (.ref it)) (fun r s1=>∃ u,r=some u∧
   wpAny (model P w) X.A (letOwnedTupleGo tg (.ref it) u) (fun _ s2=>∃ x H',Inv X pins σ H' s2∧aq x u∧J.yld i H x H'∧tn (i+1) s2.heap∧∀ b∈fp,H' b=none) E s1) E s
 done:∀ (X:Cx),X.prog=P→X.w=w→X.K=K→X.calm=true→∀ (i:Nat) (pins:List (Addr×Obj)) (s:Shared) (σ:St) (H:Hp) (E:Value→Shared→Prop),Inv X pins σ H s→(∀ b∈fp,dy X pins H b)→tn i s.heap→J.stop i H→
  wpAny (model P w) X.A (pyNext (.ref it)) (fun r s1=>r=none∧Inv X pins σ H s1) E s
 self:∀ (A:Around) (i:Nat) (s:Shared) (Q:Value→Shared→Prop) (E:Value→Shared→Prop),tn i s.heap→Q (.ref it) s→wpAny (model P w) A (pyIter (.ref it)) Q E s
abbrev TI:=St→Hp→(It→Hp→Prop)→Prop
def PIE(X:Cx)(pins:List (Addr×Obj))(σ:St)(tg:Expr)(R:It→Hp→Prop)(itv:Value)(s2:Shared):Prop:=
 ∃ (it:Addr) (fp:List Addr) (tn:Nat→Heap→Prop) (J:It) (H':Hp),itv=.ref it∧Inv X pins σ H' s2∧hV X.prog X.w X.K tg J fp it tn∧tn 0 s2.heap∧(∀ b∈fp,dy X pins H' b)∧R J H'
def PI(X:Cx)(tg iter:Expr)(wi:TI):Prop:=
 ∀ (pins:List (Addr×Obj)) (s:Shared) (σ:St) (H:Hp) (R:It→Hp→Prop),Inv X pins σ H s→wi σ H R→
  wpAny (model X.prog X.w) X.A (eval iter X.env) (fun v s1=>wpAny (model X.prog X.w) X.A (pyIter v) (PIE X pins σ tg R) X.xe s1) X.xe s
theorem pK{M:Model}{A:Around}{E:Value→Shared→Prop}{s:Shared}{tg:Expr}{it:Addr}{u:Value}{o:Obj}{n:String}{vs:Array Value}{Q:Unit→Shared→Prop}(ho:s.heap.get? it=some o)(hc:o.cls=.type n)(hd:o.data=.fields vs)
    (hn:["enumerate","zip","dict_itemiterator","dict_reverseitemiterator","odict_iterator","itertools.zip_longest","itertools.pairwise"].contains n=false) (hQ:Q () s):wpAny M A (letOwnedTupleGo tg (.ref it) u) Q E s:=by
  unfold letOwnedTupleGo
  cases tg <;> first
    | exact Yf hQ
    | (cases u <;> first
        | exact Yf hQ
        | (refine Yd (wpAny_load ho ?_)
           rw [hc,hd]
           show wpAny M A (if (["enumerate","zip","dict_itemiterator","dict_reverseitemiterator","odict_iterator","itertools.zip_longest","itertools.pairwise"].contains n&&vs[0]? == some (rawInt _))=true then _ else _) Q E s
           rw [if_neg (by intro h; rw [hn,Xo] at h; cases h)]
           exact Yf hQ))
def Itl(K:XC)(a:Addr):It:=
 ⟨fun i H=>∃ xs x,SqL K H a xs∧xs[i]? = some x,fun i H x H'=>H'=H∧∀ xs,SqL K H a xs→xs[i]? = some x,fun i H=>∃ xs,SqL K H a xs∧xs.length≤i⟩
def Itt(K:XC)(a:Addr):It:=
 ⟨fun i H=>∃ xs x,SqT K H a xs∧xs[i]? = some x,fun i H x H'=>H'=H∧∀ xs,SqT K H a xs→xs[i]? = some x,fun i H=>∃ xs,SqT K H a xs∧xs.length≤i⟩
def Itr(lo:Int)(n:Nat):It:=⟨fun i _=>i<n,fun i H x H'=>H'=H∧x=.int (lo+i),fun i _=>n≤i⟩
theorem jv{P:Program}{w:World}{K:XC}{tg:Expr}(a it:Addr):hV P w K tg (Itl K a) [it] it (fun i h=>h.IsListIter it a i) where
 mem:=by simp
 obj:=fun i h st b hb=>by
  have e:b=it:=by simpa using hb
  subst e
  obtain⟨o,e,c,d⟩:=st
  exact⟨o,e,fun v z=>by rw [d] at z; cases z⟩
 keep:=fun i h h' st k=>st.at fun o e=>k it (by simp) o e
 item:=by
  intro X hP hw hK hc i pins s σ H E I hf st hg
  subst hP hw hK
  obtain⟨xs,x,hq,hx⟩:=hg
  obtain⟨its,rv,p,hz⟩:=I.list hq
  obtain⟨u,hu,ru⟩:=rv.get hx
  obtain⟨f0,f1,f2,f3,f4,f5⟩:=hf it (by simp)
  refine wpAny_pyNext_list_item st p.isList (x:=u) (by simpa using hu) fun h' st' sb=>?_
  have I1:Inv X pins σ H {s with heap:=h'}:=I.turned (t':=s.toks) (fun b o hb e=>(sb.2 b hb).trans e) f0 f1 f3 f4 f5
  obtain⟨o,e,c,d⟩:=id st'
  exact⟨u,rfl,pK (s:={s with heap:=h'}) e c d (by decide) ⟨x,H,I1,ru,⟨rfl,fun ys hy=>by rw [I.list_inj hy hq]; exact hx⟩,st',fun b hb=>(hf b hb).1⟩⟩
 done:=by
  intro X hP hw hK hc i pins s σ H E I hf st hg
  subst hP hw hK
  obtain⟨xs,hq,hx⟩:=hg
  obtain⟨its,rv,p,hz⟩:=I.list hq
  obtain⟨f0,f1,f2,f3,f4,f5⟩:=hf it (by simp)
  have hl:=rv.length
  exact wpAny_pyNext_list_end (I.ok.hd hc) st p.isList (by simp; omega) fun h' eb=>⟨rfl,I.turned (t':=s.toks) (fun b o hb e=>eb b o hb e) f0 f1 f3 f4 f5⟩
 self:=fun _ _ _ _ _ st h=>wpAny_pyIter_listiter st h
theorem m9{P:Program}{w:World}{K:XC}{tg:Expr}(a it:Addr):hV P w K tg (Itt K a) [it] it (fun i h=>h.IsTupleIter it a i) where
 mem:=by simp
 obj:=fun i h st b hb=>by
  have e:b=it:=by simpa using hb
  subst e
  obtain⟨o,e,c,d⟩:=st
  exact⟨o,e,fun v z=>by rw [d] at z; cases z⟩
 keep:=fun i h h' st k=>st.at fun o e=>k it (by simp) o e
 item:=by
  intro X hP hw hK hc i pins s σ H E I hf st hg
  subst hP hw hK
  obtain⟨xs,x,hq,hx⟩:=hg
  obtain⟨its,rv,p,hz⟩:=I.tuple hq
  obtain⟨u,hu,ru⟩:=rv.get hx
  obtain⟨f0,f1,f2,f3,f4,f5⟩:=hf it (by simp)
  refine wpAny_pyNext_tuple_item st (show s.heap.IsTuple a its.toArray from p) (x:=u) (by simpa using hu) fun h' st' sb=>?_
  have I1:Inv X pins σ H {s with heap:=h'}:=I.turned (t':=s.toks) (fun b o hb e=>(sb.2 b hb).trans e) f0 f1 f3 f4 f5
  obtain⟨o,e,c,d⟩:=id st'
  exact⟨u,rfl,pK (s:={s with heap:=h'}) e c d (by decide) ⟨x,H,I1,ru,⟨rfl,fun ys hy=>by rw [I.tuple_inj hy hq]; exact hx⟩,st',fun b hb=>(hf b hb).1⟩⟩
 done:=by
  intro X hP hw hK hc i pins s σ H E I hf st hg
  subst hP hw hK
  obtain⟨xs,hq,hx⟩:=hg
  obtain⟨its,rv,p,hz⟩:=I.tuple hq
  obtain⟨f0,f1,f2,f3,f4,f5⟩:=hf it (by simp)
  have hl:=rv.length
  exact wpAny_pyNext_tuple_end (I.ok.hd hc) st (show s.heap.IsTuple a its.toArray from p) (by simp; omega) fun h' eb=>⟨rfl,I.turned (t':=s.toks) (fun b o hb e=>eb b o hb e) f0 f1 f3 f4 f5⟩
 self:=fun _ _ _ _ _ st h=>wpAny_pyIter_tupleiter st h
theorem ng{P:Program}{w:World}{K:XC}{tg:Expr}(it:Addr)(lo:Int)(n:Nat):hV P w K tg (Itr lo n) [it] it (fun i h=>IsRangeIter h it (lo+(i:Nat)*1) ((n:Int) - (i:Nat)) 1) where
 mem:=by simp
 obj:=fun i h st b hb=>by
  have e:b=it:=by simpa using hb
  subst e
  exact⟨_,st,fun v z=>by
   have z':Data.fields _=Data.cell v:=z
   cases z'⟩
 keep:=fun i h h' st k=>k it (by simp) _ st
 item:=by
  intro X hP hw hK hc i pins s σ H E I hf st hg
  subst hP hw hK
  obtain⟨f0,f1,f2,f3,f4,f5⟩:=hf it (by simp)
  have W:=Walks.range (prog:=X.prog) (w:=X.w) (I.ok.hd hc) it lo 1 n
  refine W.item i s _ _ hg st fun v h' tk hv st' kk=>?_
  obtain⟨t,rfl⟩:=hv
  have I1:Inv X pins σ H {s with heap:=h',toks:=tk}:=I.turned (fun b o hb e=>kk b o (by simpa using hb) e) f0 f1 f3 f4 f5
  refine⟨_,rfl,pK (s:={s with heap:=h',toks:=tk}) (n:="range_iterator") st' rfl rfl (by decide) ⟨.int (lo+i),H,I1,⟨t,?_⟩,⟨rfl,rfl⟩,st',fun b hb=>(hf b hb).1⟩⟩
  rw [Int.mul_one]
 done:=by
  intro X hP hw hK hc i pins s σ H E I hf st hg
  subst hP hw hK
  obtain⟨f0,f1,f2,f3,f4,f5⟩:=hf it (by simp)
  exact wpAny_pyNext_range_end (I.ok.hd hc) st (by have : n≤i:=hg; omega) fun h' eb=>⟨rfl,I.turned (t':=s.toks) (fun b o hb e=>eb b o hb e) f0 f1 f3 f4 f5⟩
 self:=fun _ _ _ _ _ st h=>wpAny_pyIter_rangeiter st h
section
variable{X:Cx}{tg:Expr}
inductive iListI(K:XC)(R:It→Hp→Prop)(x:V)(H1:Hp):Prop | mk (a) (_:x=.ref a) (_:(∃ xs,SqL K H1 a xs)) (_:R (Itl K a) H1)
def xU(K:XC)(tl:TE):TI:=fun σ H R=>tl σ H (iListI K R)
inductive iTupI(K:XC)(R:It→Hp→Prop)(x:V)(H1:Hp):Prop | mk (a) (_:x=.ref a) (_:(∃ xs,SqT K H1 a xs)) (_:R (Itt K a) H1)
def Ap(K:XC)(tl:TE):TI:=fun σ H R=>tl σ H (iTupI K R)
theorem pi{l:Expr}{tl:TE}(hl:PE X l tl):PI X tg l (xU X.K tl):=by
 intro pins s σ H R I h
 refine thn (hl pins s σ H _ I h) fun v s1 ⟨x,H1,I1,r1,q1⟩=>?_
 obtain⟨a,e,⟨xs,hq⟩,q⟩:=q1
 subst e
 cases r1
 obtain⟨its,rv,p,hz⟩:=I1.list hq
 refine wpAny_pyIter_list p.isList ?_
 refine⟨s1.heap.objs.size,[s1.heap.objs.size],_,_,H1,rfl,I1.kept (t':=s1.toks) fun b o e=>Ye _ e,jv a _,⟨_,Yo _ rfl,rfl,rfl⟩,fun b hb=>?_,q⟩
 have e:b=s1.heap.objs.size:=by simpa using hb
 subst e
 exact I1.fpOk (Yg _) (I1.hok.fresh (Yg _))
theorem tw{l:Expr}{tl:TE}(hl:PE X l tl):PI X tg l (Ap X.K tl):=by
 intro pins s σ H R I h
 refine thn (hl pins s σ H _ I h) fun v s1 ⟨x,H1,I1,r1,q1⟩=>?_
 obtain⟨a,e,⟨xs,hq⟩,q⟩:=q1
 subst e
 cases r1
 obtain⟨its,rv,p,hz⟩:=I1.tuple hq
 refine wpAny_pyIter_tuple (show s1.heap.IsTuple a its.toArray from p) ?_
 refine⟨s1.heap.objs.size,[s1.heap.objs.size],_,_,H1,rfl,I1.kept (t':=s1.toks) fun b o e=>Ye _ e,m9 a _,⟨_,Yo _ rfl,rfl,rfl⟩,fun b hb=>?_,q⟩
 have e:b=s1.heap.objs.size:=by simpa using hb
 subst e
 exact I1.fpOk (Yg _) (I1.hok.fresh (Yg _))
theorem sU{pins:List (Addr×Obj)}{σ:St}{H:Hp}{s:Shared}{R:It→Hp→Prop}{E:Value→Shared→Prop}{lo hi:Int}{t u v:Tok}{tk:Nat}(I:Inv X pins σ H s)(h1:-(2 ^ 62)≤lo)(h2:lo<2 ^ 62)(h3:-(2 ^ 62)≤hi)(h4:hi<2 ^ 62)
  (q:R (Itr lo (hi-lo).toNat) H):wpAny (model X.prog X.w) X.A (pyIter (.ref s.heap.objs.size)) (PIE X pins σ tg R) E {s with heap:=s.heap.push {cls:=.type "range",data:=.fields #[.int lo t,.int hi u,.int 1 v]},toks:=tk}:=by
 refine wpAny_pyIter_range (IsRange.new ..) (small_one h1 h2 h3 h4) ?_
 have I1:Inv X pins σ H {s with heap:=s.heap.push {cls:=.type "range",data:=.fields #[.int lo t,.int hi u,.int 1 v]},toks:=tk}:=I.kept fun b o e=>Ye _ e
 refine⟨(s.heap.push {cls:=.type "range",data:=.fields #[.int lo t,.int hi u,.int 1 v]}).objs.size,[(s.heap.push {cls:=.type "range",data:=.fields #[.int lo t,.int hi u,.int 1 v]}).objs.size],_,_,H,rfl,
  I1.kept (t':=tk) fun b o e=>Ye _ e,ng _ lo (hi-lo).toNat,?_,fun b hb=>?_,q⟩
 ·have e1:lo+((0:Nat):Int)*1=lo:=by simp
  have e2:(((hi-lo).toNat:Nat):Int) - ((0:Nat):Int)=Builtin.Range.rangeSize lo hi 1:=by rw [rangeSize_one]; split <;> omega
  show IsRangeIter _ _ (lo+((0:Nat):Int)*1) ((((hi-lo).toNat:Nat):Int) - ((0:Nat):Int)) 1
  rw [e1,e2]
  exact Yo _ rfl
 ·have e:b=(s.heap.push {cls:=.type "range",data:=.fields #[.int lo t,.int hi u,.int 1 v]}).objs.size:=by simpa using hb
  subst e
  exact I1.fpOk (Yg _) (I1.hok.fresh (Yg _))
inductive iRng1I(R:It→Hp→Prop)(vs:List V)(H1:Hp):Prop | mk (j:Int) (_:vs=[.int j]) (_:-(2 ^ 62)≤j) (_:j<2 ^ 62) (_:R (Itr 0 j.toNat) H1)
def xT(ta:TA):TI:=fun σ H R=>ta σ H (iRng1I R)
theorem qA{a:Expr}{ta:TA}{p pos:Pos}(hg:Gl X "range")(hm:X.mg "range"=none)(ha:PA X [a] ta)(hs:starEach [a] X.env=[(false,eval a X.env)]:=by rfl):PI X tg (.Call (.Name "range" p) [a] [] pos) (xT ta):=by
 intro pins s σ H R I h
 refine Call_ (gH I hg hm boot_range (PyProof.Rows.callWith_type1 (thn (ha pos pins s σ H _ I h) fun us s1 ⟨vs,H1,I1,r1,q1⟩=>?_) hs rfl))
 obtain⟨j,e,q1,q2,q⟩:=q1
 subst e
 cases r1 with
 | cons r rr=>
  cases rr
  obtain⟨t,rfl⟩:=r
  exact call_range_1 (sU I1 (by omega) (by omega) q1 q2 (by simpa using q))
def zP(wi:TI)(g:TG)(tb:TS):TS:=fun D σ H=>wi σ H fun J H1=>∃ W:Nat→Nat→St→Hp→Prop,(∃ m,W 0 m σ H1)∧∀ i m σ H,W i m σ H→
 (J.stop i H∧D.nx σ H)∨(J.go i H∧∃ N:St→Hp→Prop,(∀ σ' H',N σ' H'→∃ m',m'<m∧W (i+1) m' σ' H')∧∀ x H',J.yld i H x H'→g x σ H' fun σ2 H2=>tb {D with nx:=N,ct:=N,bk:=D.nx} σ2 H2)
def bz(fp:List Addr)(h:Heap):List (Addr×Obj):=fp.filterMap fun b=>(h.get? b).map fun o=>(b,o)
theorem aH{fp:List Addr}{h:Heap}{b:Addr}{o:Obj}(hb:b∈fp)(e:h.get? b=some o):(b,o)∈bz fp h:=List.mem_filterMap.mpr ⟨b,hb,by rw [e]; rfl⟩
theorem dE{fp:List Addr}{h:Heap}{p:Addr×Obj}(hp:p∈bz fp h):p.1∈fp∧h.get? p.1=some p.2:=by
 obtain⟨b,hb,e⟩:=List.mem_filterMap.mp hp
 cases q:h.get? b with
 | none=>rw [q] at e; cases e
 | some o=>
  rw [q] at e
  have e':(b,o)=p:=Option.some.inj e
  subst e'
  exact⟨hb,q⟩
theorem Inv.pinned{pins:List (Addr×Obj)}{σ:St}{H:Hp}{s:Shared}{fp:List Addr}(I:Inv X pins σ H s)(hf:∀ b∈fp,dy X pins H b)(ho:∀ b∈fp,∃ o,s.heap.get? b=some o∧∀ v,o.data≠.cell v):Inv X (pins++bz fp s.heap) σ H s:=
 I.pins_of fun p hp=>(YN.mp hp).elim (fun z=>I.pin p (Yk _ z)) fun z=>by
  obtain⟨hb,e⟩:=dE z
  obtain⟨f0,f1,f2,_⟩:=hf p.1 hb
  obtain⟨o,e',d⟩:=ho p.1 hb
  rw [e] at e'; cases e'
  exact⟨e,f0,f1,f2,d⟩
theorem Inv.unpinned{pins pl:List (Addr×Obj)}{σ:St}{H:Hp}{s:Shared}(I:Inv X (pins++pl) σ H s):Inv X pins σ H s:=I.pins_of fun p hp=>I.pin p (Yk _ (YT _ hp))
theorem yz{iter:Expr}{body:List Stmt}{wi:TI}{g:TG}{tb:TS}{pos:Pos}(hp:PassesOwn (model X.prog X.w) X.A X.env X.xe)(hc:X.calm=true)(hi:PI X tg iter wi)(hg:PG X tg g)(hb:PSs X body tb)
  (hs:∀ x,foldedSetIterable iter X.env x=pure x:=by intro _; rfl):PS X (.For tg iter body [] pos) (zP wi g tb):=by
 intro pins s σ H D I h
 refine wpAny_For (thn (hi pins s σ H _ I h) fun v s1 h1=>thn h1 fun itv s2 h2=>?_) hs
 obtain⟨it,fp,tn,J,H2,e,I2,T,st2,f2,W,⟨m0,w0⟩,turn⟩:=h2
 subst e
 have stat:∀ {H':Hp},(∀ b∈fp,H' b=none)→∀ b∈fp,dy X pins H' b:=fun hn b hb=>⟨hn b hb,(f2 b hb).2⟩
 refine codeAny_forLoop_any (fun n s'=>∃ i σ' H',Inv X pins σ' H' s'∧tn i s'.heap∧(∀ b∈fp,H' b=none)∧W i n σ' H') ?_ m0 ⟨0,σ,H2,I2,st2,fun b hb=>(f2 b hb).1,w0⟩
 rintro n s3 ⟨i,σ3,H3,I3,st3,fr3,w3⟩
 rcases turn i n σ3 H3 w3 with ⟨stop,qn⟩ | ⟨go,N,hN,step⟩
 ·refine wpAny_passesOwn hp (thn (T.done X rfl rfl rfl hc i pins s3 σ3 H3 X.xe I3 (stat fr3) st3 stop) fun r s4 ⟨hr,I4⟩=>?_)
  subst hr
  exact wpAny_execs_nil ⟨σ3,H3,I4,qn⟩
 ·refine wpAny_passesOwn hp (thn (T.item X rfl rfl rfl hc i pins s3 σ3 H3 X.xe I3 (stat fr3) st3 go) fun r s4 ⟨u,hr,h4⟩=>?_)
  subst hr
  refine wpAny_passesOwn hp (thn h4 fun _ s5 ⟨x,H5,I5,r5,y5,st5,fr5⟩=>?_)
  have I5':=I5.pinned (stat fr5) (T.obj _ _ st5)
  refine wpAny_passesOwn hp (thn (hg _ s5 σ3 H5 x u _ I5' r5 (step x H5 y5)) fun _ s6 ⟨σ6,H6,I6,q6⟩=>?_)
  refine wpAny_passesOwn hp (thn (hb _ s6 σ6 H6 _ I6 q6) fun f s7 q7=>?_)
  have again:∀ {σ7:St} {H7:Hp},Inv X (pins++bz fp s5.heap) σ7 H7 s7→N σ7 H7→∃ m,m<n∧∃ i σ' H',Inv X pins σ' H' s7∧tn i s7.heap∧(∀ b∈fp,H' b=none)∧W i m σ' H':=fun {σ7 H7} I7 n7=>by
   obtain⟨m',hm,w7⟩:=hN σ7 H7 n7
   refine⟨m',hm,i+1,σ7,H7,I7.unpinned,T.keep _ _ _ st5 fun b hb o e=>(I7.pin (b,o) (Yk _ (Yk _ (aH hb e)))).1,fun b hb=>?_,w7⟩
   obtain⟨o,e,d⟩:=T.obj _ _ st5 b hb
   exact(I7.pin (b,o) (Yk _ (Yk _ (aH hb e)))).2.1
  cases f with
  | next=>obtain⟨σ7,H7,I7,n7⟩:=q7; exact again I7 n7
  | cont=>obtain⟨σ7,H7,I7,n7⟩:=q7; exact again I7 n7
  | brk=>obtain⟨σ7,H7,I7,q7⟩:=q7; exact⟨σ7,H7,I7.unpinned,q7⟩
  | ret v=>obtain⟨x7,σ7,H7,I7,r7,q7⟩:=q7; exact⟨x7,σ7,H7,I7.unpinned,r7,q7⟩
end
theorem ge{K:XC}{a:Addr}{xs:List V}{g:TG}{tb:TS}{D:dJ}{σ:St}{H:Hp}(Pv:Nat→St→Hp→Prop)(h0:Pv 0 σ H)(hl:∀ i σ H,i≤xs.length→Pv i σ H→SqL K H a xs)
  (hs:∀ i x σ H,xs[i]? = some x→Pv i σ H→g x σ H fun σ2 H2=>tb {D with nx:=Pv (i+1),ct:=Pv (i+1),bk:=D.nx} σ2 H2) (hd:∀ σ H,Pv xs.length σ H→D.nx σ H) :
  ∃ W:Nat→Nat→St→Hp→Prop,(∃ m,W 0 m σ H)∧∀ i m σ H,W i m σ H→
   ((Itl K a).stop i H∧D.nx σ H)∨((Itl K a).go i H∧∃ N:St→Hp→Prop,(∀ σ' H',N σ' H'→∃ m',m'<m∧W (i+1) m' σ' H')∧∀ x H',(Itl K a).yld i H x H'→g x σ H' fun σ2 H2=>tb {D with nx:=N,ct:=N,bk:=D.nx} σ2 H2):=by
 refine⟨fun i m σ H=>m=xs.length-i∧i≤xs.length∧Pv i σ H,⟨xs.length,by simp,Yy _,h0⟩,?_⟩
 rintro i m σ H ⟨rfl,hi,p⟩
 have q:=hl i σ H hi p
 by_cases hlt:i<xs.length
 ·refine .inr ⟨⟨xs,xs[i],q,by simp [hlt]⟩,Pv (i+1),fun σ' H' p'=>⟨xs.length - (i+1),by omega,rfl,hlt,p'⟩,fun x H' y=>?_⟩
  obtain⟨e,y⟩:=y
  subst e
  exact hs i x σ _ (y xs q) p
 ·have e:i=xs.length:=by omega
  subst e
  exact .inl ⟨⟨xs,q,Yg _⟩,hd σ H p⟩
theorem qW{lo:Int}{n:Nat}{g:TG}{tb:TS}{D:dJ}{σ:St}{H:Hp}(Pv:Nat→St→Hp→Prop)(h0:Pv 0 σ H)
  (hs:∀ i σ H,i<n→Pv i σ H→g (.int (lo+i)) σ H fun σ2 H2=>tb {D with nx:=Pv (i+1),ct:=Pv (i+1),bk:=D.nx} σ2 H2) (hd:∀ σ H,Pv n σ H→D.nx σ H) :
  ∃ W:Nat→Nat→St→Hp→Prop,(∃ m,W 0 m σ H)∧∀ i m σ H,W i m σ H→
   ((Itr lo n).stop i H∧D.nx σ H)∨((Itr lo n).go i H∧∃ N:St→Hp→Prop,(∀ σ' H',N σ' H'→∃ m',m'<m∧W (i+1) m' σ' H')∧∀ x H',(Itr lo n).yld i H x H'→g x σ H' fun σ2 H2=>tb {D with nx:=N,ct:=N,bk:=D.nx} σ2 H2):=by
 refine⟨fun i m σ H=>m=n-i∧i≤n∧Pv i σ H,⟨n,by simp,Yy _,h0⟩,?_⟩
 rintro i m σ H ⟨rfl,hi,p⟩
 by_cases hlt:i<n
 ·refine .inr ⟨hlt,Pv (i+1),fun σ' H' p'=>⟨n - (i+1),by omega,rfl,hlt,p'⟩,fun x H' y=>?_⟩
  obtain⟨e,y⟩:=y
  subst e y
  exact hs i σ _ hlt p
 ·have e:i=n:=by omega
  subst e
  exact .inl ⟨Yg _,hd σ H p⟩
abbrev R2:=V→V→Hp→VK→Prop
def OpR(X:Cx)(f:Value→Value→Sem Value)(r:R2):Prop:=
 ∀ (pins:List (Addr×Obj)) (s:Shared) (σ:St) (H:Hp) (x y:V) (v u:Value) (Q:VK),Inv X pins σ H s→aq x v→aq y u→r x y H Q→
  wpAny (model X.prog X.w) X.A (f v u) (EP X pins σ Q) X.xe s
def UnR(X:Cx)(f:Value→Sem Value)(r:V→Hp→VK→Prop):Prop:=
 ∀ (pins:List (Addr×Obj)) (s:Shared) (σ:St) (H:Hp) (x:V) (v:Value) (Q:VK),Inv X pins σ H s→aq x v→r x H Q→
  wpAny (model X.prog X.w) X.A (f v) (EP X pins σ Q) X.xe s
def bU(X:Cx)(f:Value)(r:List V→Hp→VK→Prop):Prop:=
 ∀ (pins:List (Addr×Obj)) (s:Shared) (σ:St) (H:Hp) (xs:List V) (us:List Value) (Q:VK),Inv X pins σ H s→ap xs us→r xs H Q→
  wpAny (model X.prog X.w) X.A (call f us) (EP X pins σ Q) X.xe s
def Bi(X:Cx)(r:V→Hp→(Bool→Hp→Prop)→Prop):Prop:=
 ∀ (pins:List (Addr×Obj)) (s:Shared) (σ:St) (H:Hp) (x:V) (v:Value) (Q:Bool→Hp→Prop),Inv X pins σ H s→aq x v→r x H Q→
  wpAny (model X.prog X.w) X.A (truthy v) (TP X pins σ Q) X.xe s
def tOp(r:R2)(ta tb:TE):TE:=fun σ H Q=>ta σ H fun x H1=>tb σ H1 fun y H2=>r x y H2 Q
def tUn(r:V→Hp→VK→Prop)(ta:TE):TE:=fun σ H Q=>ta σ H fun x H1=>r x H1 Q
inductive rI(C:Int→Int→Prop)(g:Int→Int→V)(x y:V)(H:Hp)(Q:VK):Prop | mk (i j) (_:x=.int i) (_:y=.int j) (_:C i j) (_:Q (g i j) H)
inductive rI0(g:Int→Int→V)(x y:V)(H:Hp)(Q:VK):Prop | mk (i j) (_:x=.int i) (_:y=.int j) (_:Q (g i j) H)
inductive rU(g:Int→V)(x:V)(H:Hp)(Q:VK):Prop | mk (i) (_:x=.int i) (_:Q (g i) H)
section
variable{X:Cx}{a b c:Expr}{ta tb tc:TE}{pos:Pos}
theorem zz(ha:PE X a ta)(hb:PE X b tb){pins:List (Addr×Obj)}{s:Shared}{σ:St}{H:Hp}{R:V→V→Hp→Prop}(I:Inv X pins σ H s)
  (h:ta σ H fun x H1=>tb σ H1 fun y H2=>R x y H2) {Q:Value→Shared→Prop} {f:Value→Value→Sem Value}
  (hf:∀ v u s2 x y H2,Inv X pins σ H2 s2→aq x v→aq y u→R x y H2→wpAny (model X.prog X.w) X.A (f v u) Q X.xe s2) :
  wpAny (model X.prog X.w) X.A (eval a X.env) (fun v s₁=>wpAny (model X.prog X.w) X.A (eval b X.env) (fun u s₂=>wpAny (model X.prog X.w) X.A (f v u) Q X.xe s₂) X.xe s₁) X.xe s:=by
 refine thn (ha pins s σ H _ I h) fun v s1 ⟨x,H1,I1,r1,q1⟩=>?_
 refine thn (hb pins s1 σ H1 _ I1 q1) fun u s2 ⟨y,H2,I2,r2,q2⟩=>?_
 exact hf v u s2 x y H2 I2 r1 r2 q2
theorem lM{op:Operator}{r:R2}(ho:OpR X (binaryOp op) r)(ha:PE X a ta)(hb:PE X b tb):PE X (.BinOp a op b pos) (tOp r ta tb):=by
 intro pins s σ H Q I h
 exact wpAny_BinOp (zz ha hb I h fun v u s2 x y H2 I2 rx ry q=>ho pins s2 σ H2 x y v u Q I2 rx ry q)
theorem tF{op:UnaryOp}{r:V→Hp→VK→Prop}(ho:UnR X (unaryOp op) r)(ha:PE X a ta):PE X (.UnaryOp op a pos) (tUn r ta):=by
 intro pins s σ H Q I h
 exact UnaryOp_ (thn (ha pins s σ H _ I h) fun v s1 ⟨x,H1,I1,r1,q1⟩=>ho pins s1 σ H1 x v Q I1 r1 q1)
theorem opI{f:Value→Value→Sem Value}{C:Int→Int→Prop}{g:Int→Int→Int}
  (rule:∀ (i j:Int) (t u:Tok) (s:Shared) (Q:Value→Shared→Prop) (E:Value→Shared→Prop),C i j→Q (.int (g i j) s.toks) {s with toks:=s.toks+1}→wpAny (model X.prog X.w) X.A (f (.int i t) (.int j u)) Q E s) :
  OpR X f (rI C fun i j=>.int (g i j)):=by
 intro pins s σ H x y v u Q I rx ry h
 obtain⟨i,j,rfl,rfl,hc,q⟩:=h
 obtain⟨t,rfl⟩:=rx
 obtain⟨t',rfl⟩:=ry
 exact rule i j t t' s _ _ hc ⟨.int (g i j),H,I.tok _,⟨_,rfl⟩,q⟩
theorem z9{f:Value→Value→Sem Value}{g:Int→Int→Int}
  (rule:∀ (i j:Int) (t u:Tok) (s:Shared) (Q:Value→Shared→Prop) (E:Value→Shared→Prop),Q (.int (g i j) s.toks) {s with toks:=s.toks+1}→wpAny (model X.prog X.w) X.A (f (.int i t) (.int j u)) Q E s) :
  OpR X f (rI0 fun i j=>.int (g i j)):=by
 intro pins s σ H x y v u Q I rx ry h
 obtain⟨i,j,rfl,rfl,q⟩:=h
 obtain⟨t,rfl⟩:=rx
 obtain⟨t',rfl⟩:=ry
 exact rule i j t t' s _ _ ⟨.int (g i j),H,I.tok _,⟨_,rfl⟩,q⟩
theorem yU{f:Value→Value→Sem Value}{g:Int→Int→Bool}
  (rule:∀ (i j:Int) (t u:Tok) (s:Shared) (Q:Value→Shared→Prop) (E:Value→Shared→Prop),Q (.bool (g i j)) s→wpAny (model X.prog X.w) X.A (f (.int i t) (.int j u)) Q E s) :
  OpR X f (rI0 fun i j=>.bl (g i j)):=by
 intro pins s σ H x y v u Q I rx ry h
 obtain⟨i,j,rfl,rfl,q⟩:=h
 obtain⟨t,rfl⟩:=rx
 obtain⟨t',rfl⟩:=ry
 exact rule i j t t' s _ _ ⟨.bl (g i j),H,I,rfl,q⟩
def AF(i j:Int):Prop:=0<j∧j<1073741824
def Bk(i j:Int):Prop:=0≤j∧j≤1000000∧i.natAbs<2 ^ 64
def zE(i j:Int):Prop:=(-(2 ^ 64)<i∧i<2 ^ 64)∨(-(2 ^ 64)<j∧j<2 ^ 64)
theorem zE.ok{i j:Int}(h:zE i j):IntMulOk i j:=by
 rcases h with ⟨h1,h2⟩ | ⟨h1,h2⟩
 ·exact .of_left (intBits_le_64 h1 h2)
 ·exact .of_right (intBits_le_64 h1 h2)
theorem yT:OpR X (binaryOp .Add) (rI0 fun i j=>.int (i+j)):=z9 fun _ _ _ _ _ _ _ q=>add_int q
theorem yM:OpR X (binaryOp .Sub) (rI0 fun i j=>.int (i-j)):=z9 fun _ _ _ _ _ _ _ q=>sub_int q
theorem yP:OpR X (binaryOp .Mult) (rI zE fun i j=>.int (i*j)):=opI fun _ _ _ _ _ _ _ hc q=>mul_int q hc.ok
theorem wE:OpR X (binaryOp .FloorDiv) (rI AF fun i j=>.int (i / j)):=opI fun i j _ _ _ _ _ hc q=>by
 have h1:(0:Int)<j:=hc.1
 have h2:j<1073741824:=hc.2
 exact floordiv_int (by omega) (by rw [Int.fdiv_eq_ediv_of_nonneg i (by omega)]; exact q) (.inl (PyProof.noPylong_small (by omega)))
theorem yQ:OpR X (binaryOp .Mod) (rI (fun _ j=>0<j) fun i j=>.int (i % j)):=opI fun i j _ _ _ _ _ hc q=>by
 have h1:(0:Int)<j:=hc
 exact mod_int' (by omega) (by rw [Int.fmod_eq_emod_of_nonneg i (by omega)]; exact q)
theorem yO:OpR X (binaryOp .Pow) (rI Bk fun i j=>.int (i ^ j.toNat)):=opI fun _ _ _ _ _ _ _ hc q=>pow_int_small hc.1 hc.2.1 hc.2.2 q
theorem unI{f:Value→Sem Value}{g:Int→Int}
  (rule:∀ (i:Int) (t:Tok) (s:Shared) (Q:Value→Shared→Prop) (E:Value→Shared→Prop),Q (.int (g i) s.toks) {s with toks:=s.toks+1}→wpAny (model X.prog X.w) X.A (f (.int i t)) Q E s) :
  UnR X f (rU fun i=>.int (g i)):=by
 intro pins s σ H x v Q I rx h
 obtain⟨i,rfl,q⟩:=h
 obtain⟨t,rfl⟩:=rx
 exact rule i t s _ _ ⟨.int (g i),H,I.tok _,⟨_,rfl⟩,q⟩
theorem m7:UnR X (unaryOp .USub) (rU fun i=>.int (-i)):=unI fun _ _ _ _ _ q=>neg_int q
end
def zV:V→V→Bool
 | .non,.non=>true | .non,.int _=>true | .int _,.non=>true | .non,.bl _=>true | .bl _,.non=>true | .non,.str _=>true | .str _,.non=>true
 | .int _,.int _=>true | .bl _,.bl _=>true | .str _,.str _=>true | .byt _,.byt _=>true
 | .int _,.str _=>true | .str _,.int _=>true | .bl _,.str _=>true | .str _,.bl _=>true
 | _,_=>false
def rEq:R2:=fun x y H Q=>zV x y=true∧Q (.bl (decide (x=y))) H
def rNe:R2:=fun x y H Q=>zV x y=true∧Q (.bl (!decide (x=y))) H
theorem pO{i j:Int}:decide (V.int i=V.int j)=(i==j):=by
 rw [Xt]
 simp
theorem vk{i j:Bool}:decide (V.bl i=V.bl j)=(i==j):=by
 rw [Xt]
 simp
theorem pN{i j:Str}:decide (V.str i=V.str j)=(i==j):=by
 rw [Xt]
 simp
theorem pP{i j:Array UInt8}:decide (V.byt i=V.byt j)=(i.toList==j.toList):=by
 rw [Xt]
 cases i
 cases j
 simp
section
variable{X:Cx}{a b c:Expr}{ta tb tc:TE}{pos:Pos}
theorem ay{pins:List (Addr×Obj)}{σ:St}{H:Hp}{s:Shared}{Q:VK}{k k':Bool}(I:Inv X pins σ H s)(q:Q (.bl k) H)(e:k=k'):EP X pins σ Q (.bool k') s:=by
 subst e
 exact⟨.bl k,H,I,rfl,q⟩
theorem tU:OpR X (compareOp .Eq) rEq:=by
 intro pins s σ H x y v u Q I rx ry h
 obtain⟨hs,q⟩:=h
 cases x with
 | non=>
  cases rx
  cases y with
  | non=>cases ry; exact PySem.EqNone.eq_none_none (ay I q (by simp))
  | bl j=>cases ry; exact PySem.EqNone.eq_none_bool (ay I q (by simp))
  | int j=>obtain⟨t',rfl⟩:=ry; exact PySem.EqNone.eq_none_int (ay I q (by simp))
  | str j=>obtain⟨t',rfl⟩:=ry; exact PySem.EqNone.eq_none_str (ay I q (by simp))
  | _=>exact absurd (show false=true from hs) Yt
 | bl i=>
  cases rx
  cases y with
  | non=>cases ry; exact PySem.EqNone.eq_bool_none (ay I q (by simp))
  | bl j=>cases ry; exact eq_bool (ay I q vk)
  | str j=>obtain⟨t',rfl⟩:=ry; exact PySem.EqMixed.eq_bool_str (ay I q (by simp))
  | _=>exact absurd (show false=true from hs) Yt
 | int i=>
  obtain⟨t,rfl⟩:=rx
  cases y with
  | non=>cases ry; exact PySem.EqNone.eq_int_none (ay I q (by simp))
  | int j=>obtain⟨t',rfl⟩:=ry; exact eq_int (ay I q pO)
  | str j=>obtain⟨t',rfl⟩:=ry; exact PySem.EqMixed.eq_int_str (ay I q (by simp))
  | _=>exact absurd (show false=true from hs) Yt
 | str i=>
  obtain⟨t,rfl⟩:=rx
  cases y with
  | non=>cases ry; exact PySem.EqNone.eq_str_none (ay I q (by simp))
  | bl j=>cases ry; exact PySem.EqMixed.eq_str_bool (ay I q (by simp))
  | int j=>obtain⟨t',rfl⟩:=ry; exact PySem.EqMixed.eq_str_int (ay I q (by simp))
  | str j=>obtain⟨t',rfl⟩:=ry; exact eq_str (ay I q pN)
  | _=>exact absurd (show false=true from hs) Yt
 | byt i=>
  obtain⟨t,rfl⟩:=rx
  cases y with
  | byt j=>obtain⟨t',rfl⟩:=ry; exact PySem.W.eq_bytes (ay I q pP)
  | _=>exact absurd (show false=true from hs) Yt
 | _=>cases y <;> exact absurd (show false=true from hs) Yt
theorem tS:OpR X (compareOp .NotEq) rNe:=by
 intro pins s σ H x y v u Q I rx ry h
 obtain⟨hs,q⟩:=h
 cases x with
 | non=>
  cases rx
  cases y with
  | non=>cases ry; exact PySem.EqNone.ne_none_none (ay I q (by simp))
  | bl j=>cases ry; exact PySem.EqNone.ne_none_bool (ay I q (by simp))
  | int j=>obtain⟨t',rfl⟩:=ry; exact PySem.EqNone.ne_none_int (ay I q (by simp))
  | str j=>obtain⟨t',rfl⟩:=ry; exact PySem.EqNone.ne_none_str (ay I q (by simp))
  | _=>exact absurd (show false=true from hs) Yt
 | bl i=>
  cases rx
  cases y with
  | non=>cases ry; exact PySem.EqNone.ne_bool_none (ay I q (by simp))
  | bl j=>cases ry; exact ne_bool (ay I q (congrArg not vk))
  | str j=>obtain⟨t',rfl⟩:=ry; exact PySem.EqMixed.ne_bool_str (ay I q (by simp))
  | _=>exact absurd (show false=true from hs) Yt
 | int i=>
  obtain⟨t,rfl⟩:=rx
  cases y with
  | non=>cases ry; exact PySem.EqNone.ne_int_none (ay I q (by simp))
  | int j=>obtain⟨t',rfl⟩:=ry; exact ne_int (ay I q (congrArg not pO))
  | str j=>obtain⟨t',rfl⟩:=ry; exact PySem.EqMixed.ne_int_str (ay I q (by simp))
  | _=>exact absurd (show false=true from hs) Yt
 | str i=>
  obtain⟨t,rfl⟩:=rx
  cases y with
  | non=>cases ry; exact PySem.EqNone.ne_str_none (ay I q (by simp))
  | bl j=>cases ry; exact PySem.EqMixed.ne_str_bool (ay I q (by simp))
  | int j=>obtain⟨t',rfl⟩:=ry; exact PySem.EqMixed.ne_str_int (ay I q (by simp))
  | str j=>obtain⟨t',rfl⟩:=ry; exact ne_str (ay I q (congrArg not pN))
  | _=>exact absurd (show false=true from hs) Yt
 | byt i=>
  obtain⟨t,rfl⟩:=rx
  cases y with
  | byt j=>obtain⟨t',rfl⟩:=ry; exact PySem.W.ne_bytes (ay I q (congrArg not pP))
  | _=>exact absurd (show false=true from hs) Yt
 | _=>cases y <;> exact absurd (show false=true from hs) Yt
theorem z5:OpR X (compareOp .Lt) (rI0 fun i j=>.bl (decide (i<j))):=yU fun _ _ _ _ _ _ _ q=>lt_int q
theorem z7:OpR X (compareOp .LtE) (rI0 fun i j=>.bl (decide (i≤j))):=yU fun _ _ _ _ _ _ _ q=>le_int q
theorem z8:OpR X (compareOp .Gt) (rI0 fun i j=>.bl (decide (j<i))):=yU fun _ _ _ _ _ _ _ q=>gt_int q
inductive rOp_in_strI(x y:V)(H:Hp)(Q:VK):Prop | mk (i j) (_:x=.str i) (_:y=.str j) (_:Q (.bl (!(Builtin.Str.occurrences j i 0 j.length 1).isEmpty)) H)
theorem jI:OpR X (compareOp .In) rOp_in_strI:=by
 intro pins s σ H x y v u Q I rx ry h
 obtain⟨i,j,rfl,rfl,q⟩:=h
 obtain⟨t,rfl⟩:=rx
 obtain⟨t',rfl⟩:=ry
 exact in_str (ay I q rfl)
theorem yR:OpR X (compareOp .Is) (fun x y H Q=>y=.non∧Q (.bl (decide (x=.non))) H):=by
 intro pins s σ H x y v u Q I rx ry h
 obtain⟨rfl,q⟩:=h
 cases ry
 refine is_none_gen (ay I q ?_)
 cases x <;> first
  | (cases rx; rfl)
  | (obtain⟨t,rfl⟩:=rx; rfl)
theorem wy:OpR X (compareOp .IsNot) (fun x y H Q=>y=.non∧Q (.bl (!decide (x=.non))) H):=by
 intro pins s σ H x y v u Q I rx ry h
 obtain⟨rfl,q⟩:=h
 cases ry
 refine isnot_none_gen (ay I q ?_)
 cases x <;> first
  | (cases rx; rfl)
  | (obtain⟨t,rfl⟩:=rx; rfl)
inductive rOp_notin_strI(x y:V)(H:Hp)(Q:VK):Prop | mk (i j) (_:x=.str i) (_:y=.str j) (_:Q (.bl (!(!(Builtin.Str.occurrences j i 0 j.length 1).isEmpty))) H)
theorem fW:OpR X (compareOp .NotIn) rOp_notin_strI:=by
 intro pins s σ H x y v u Q I rx ry h
 obtain⟨i,j,rfl,rfl,q⟩:=h
 obtain⟨t,rfl⟩:=rx
 obtain⟨t',rfl⟩:=ry
 exact notIn_str (ay I q rfl)
theorem iV(b:Expr){op:CmpOp}(h:op≠.In:=by decide)(h2:op≠.NotIn:=by decide):behindInMarks op b=false:=by
 have e1:(op==CmpOp.In)=false:=by cases op <;> first | rfl | exact absurd rfl h
 have e2:(op==CmpOp.NotIn)=false:=by cases op <;> first | rfl | exact absurd rfl h2
 cases b <;> simp [behindInMarks,e1,e2]
theorem dj{op:CmpOp}{r:R2}(ho:OpR X (compareOp op) r)(ha:PE X a ta)(hb:PE X b tb)(hm:behindInMarks op b=false):PE X (.Compare a [op] [b] pos) (tOp r ta tb):=by
 intro pins s σ H Q I h
 exact wpAny_Compare1 (zz ha hb I h fun v u s2 x y H2 I2 rx ry q=>ho pins s2 σ H2 x y v u Q I2 rx ry q) hm
inductive tTestI(Q:Bool→Hp→Prop)(x:V)(H':Hp):Prop | mk (k) (_:x=.bl k) (_:Q k H')
def xI(t:TE):TT:=fun σ H Q=>t σ H (tTestI Q)
theorem bW{op:CmpOp}{r:R2}(ho:OpR X (compareOp op) r)(ha:PE X a ta)(hb:PE X b tb)(hm:behindInMarks op b=false):PT X (.Compare a [op] [b] pos) (xI (tOp r ta tb)):=by
 intro pins s σ H Q I h
 refine wpAny_isTrue_Compare1 (thn (ha pins s σ H _ I h) fun v s1 ⟨x,H1,I1,r1,q1⟩=>thn (hb pins s1 σ H1 _ I1 q1) fun u s2 ⟨y,H2,I2,r2,q2⟩=>
  thn (ho pins s2 σ H2 x y v u _ I2 r1 r2 q2) fun c s3 ⟨z,H3,I3,r3,k,e,q3⟩=>?_) hm
 subst e
 cases r3
 exact wpAny_truthy_bool ⟨H3,I3,q3⟩
inductive tChainI(r':R2)(tc:TE)(σ:St)(Q:VK)(y z:V)(H3:Hp):Prop | mk (k) (_:z=.bl k) (_:(if k=true then tc σ H3 fun w' H4=>r' y w' H4 Q else Q (.bl false) H3))
def yf(r r':R2)(ta tb tc:TE):TE:=fun σ H Q=>ta σ H fun x H1=>tb σ H1 fun y H2=>r x y H2 (tChainI r' tc σ Q y)
theorem sW{op op':CmpOp}{r r':R2}(ho:OpR X (compareOp op) r)(ho':OpR X (compareOp op') r')(ha:PE X a ta)(hb:PE X b tb)(hc:PE X c tc)
  (hm:lastMarks [op,op'] [b,c]=false:=by with_unfolding_all rfl):PT X (.Compare a [op,op'] [b,c] pos) (xI (yf r r' ta tb tc)):=by
 intro pins s σ H Q I h
 refine isTrue_chain (thn (ha pins s σ H _ I h) fun v s1 ⟨x,H1,I1,r1,q1⟩=>test_link (thn (hb pins s1 σ H1 _ I1 q1) fun u s2 ⟨y,H2,I2,r2,q2⟩=>
  thn (ho pins s2 σ H2 x y v u _ I2 r1 r2 q2) fun d s3 ⟨z,H3,I3,r3,k,e,q3⟩=>?_)) hm
 subst e
 cases r3
 refine wpAny_truthy_bool ?_
 cases k with
 | false=>
  obtain⟨k',e',q'⟩:=q3
  cases e'
  exact ite_ff ⟨H3,I3,q'⟩
 | true=>
  refine ite_tt (test_last (thn (hc pins s3 σ H3 _ I3 q3) fun w' s4 ⟨z',H4,I4,r4,q4⟩=>thn (ho' pins s4 σ H4 y z' u w' _ I4 r2 r4 q4) fun d' s5 ⟨z2,H5,I5,r5,k2,e2,q5⟩=>?_))
  subst e2
  cases r5
  exact wpAny_truthy_bool ⟨H5,I5,q5⟩
def AA(K:XC)(x:V)(H:Hp)(k:Bool):Prop:=
 match x with
 | .non=>k=false
 | .bl b=>k=b
 | .int i=>k=(i != 0)
 | .str y=>y.length≤sizeLine∧k=((y.length:Int) != 0)
 | .byt y=>y.size≤sizeLine∧k=((y.size:Int) != 0)
 | .ref p=>(∃ xs,SqL K H p xs∧k = !xs.isEmpty)∨(∃ xs,SqT K H p xs∧k = !xs.isEmpty)∨∃ kvs,H p=some (.dK kvs)∧k = !kvs.isEmpty
 | _=>False
theorem oi{κ:Type}{kvs:List (κ×V)}{vs:List (κ×Value)}(r:KV kvs vs):(!vs.isEmpty) = !kvs.isEmpty:=by
 cases r <;> rfl
theorem i5{xs:List V}{its:List Value}(r:ap xs its):(!its.toArray.isEmpty) = !xs.isEmpty:=by
 cases r <;> simp
theorem er:(sizeLine:Nat)<2 ^ 63:=by rw [sizeLine_eq]; decide
theorem x9:Bi X (fun x H Q=>∃ k,AA X.K x H k∧Q k H):=by
 intro pins s σ H x v Q I rx h
 obtain⟨k,e,q⟩:=h
 have hl:=er
 have hs:sizeLine=16777216:=sizeLine_eq
 cases x with
 | non=>
  cases rx
  have e':k=false:=e
  subst e'
  exact truthy_none ⟨H,I,q⟩
 | bl b=>
  cases rx
  have e':k=b:=e
  subst e'
  exact wpAny_truthy_bool ⟨H,I,q⟩
 | int i=>
  obtain⟨t,rfl⟩:=rx
  have e':k=(i != 0):=e
  subst e'
  exact PySem.P.truthy_int ⟨H,I,q⟩
 | str y=>
  obtain⟨t,rfl⟩:=rx
  obtain⟨hy,e'⟩:y.length≤sizeLine∧k=((y.length:Int) != 0):=e
  subst e'
  exact PySem.P.truthy_str (by omega) ⟨H,I.tok _,q⟩
 | byt y=>
  obtain⟨t,rfl⟩:=rx
  obtain⟨hy,e'⟩:y.size≤sizeLine∧k=((y.size:Int) != 0):=e
  subst e'
  exact PySem.W.truthy_bytes (by omega) ⟨H,I.tok _,q⟩
 | ref p=>
  cases rx
  have e':(∃ xs,SqL X.K H p xs∧k = !xs.isEmpty)∨(∃ xs,SqT X.K H p xs∧k = !xs.isEmpty)∨∃ kvs,H p=some (.dK kvs)∧k = !kvs.isEmpty:=e
  rcases e' with ⟨xs,hx,e'⟩ | ⟨xs,hx,e'⟩ | ⟨kvs,hx,e'⟩
  ·subst e'
   obtain⟨its,r,pl,hz⟩:=I.list hx
   have hlen:=r.length
   exact wpAny_truthy_list pl.isList (by simp only [Yq]; omega) ⟨H,I.tok _,by rw [i5 r]; exact q⟩
  ·subst e'
   obtain⟨its,r,pl,hz⟩:=I.tuple hx
   have hlen:=r.length
   exact truthy_tuple pl (by simp only [Yq]; omega) ⟨H,I.tok _,by rw [i5 r]; exact q⟩
  ·subst e'
   obtain⟨hz,hS,vs,r,m⟩:kvs.length≤sizeLine∧(p==sysModules)=false∧∃ vs,KV kvs vs∧s.heap.DictOf (az X.prog X.w) p vs:=I.hok p _ hx
   have hlen:kvs.length=vs.length:=Paired.length r
   exact wpAny_truthy_dict hS m (by omega) ⟨H,I.tok _,by rw [oi r]; exact q⟩
 | _=>exact(show False from e).elim
theorem lI(ha:PE X a ta)(he:∀ whole,isTrue a X.env whole=(do let v ← whole; standAt a.pos; holding [v] (truthy v))):
  PT X a (fun σ H Q=>ta σ H fun x H'=>∃ k,AA X.K x H' k∧Q k H'):=by
 intro pins s σ H Q I h
 exact isTrue_plain (thn (ha pins s σ H _ I h) fun v s1 ⟨x,H1,I1,r1,q1⟩=>x9 pins s1 σ H1 x v Q I1 r1 q1) (he _)
inductive rOp_add_strI(x y:V)(H:Hp)(Q:VK):Prop | mk (i j) (_:x=.str i) (_:y=.str j) (_:i.length+j.length≤sizeLine) (_:Q (.str (i++j)) H)
theorem nU:OpR X (binaryOp .Add) rOp_add_strI:=by
 intro pins s σ H x y v u Q I rx ry h
 obtain⟨i,j,rfl,rfl,hz,q⟩:=h
 obtain⟨t,rfl⟩:=rx
 obtain⟨t',rfl⟩:=ry
 exact add_str (fun t' tk=>⟨.str (i++j),H,I.tok _,⟨_,rfl⟩,q⟩) hz
theorem cM{x:V}{us:List Value}(r:ap [x] us):∃ u,us=[u]∧aq x u:=by
 cases r with
 | cons r1 r2=>cases r2; exact⟨_,rfl,r1⟩
theorem gP{x y:V}{us:List Value}(r:ap [x,y] us):∃ u w',us=[u,w']∧aq x u∧aq y w':=by
 cases r with
 | cons r1 r2=>
  cases r2 with
  | cons r3 r4=>cases r4; exact⟨_,_,rfl,r1,r3⟩
inductive rCall_absI(xs:List V)(H:Hp)(Q:VK):Prop | mk (i) (_:xs=[.int i]) (_:Q (.int (if i<0 then -i else i)) H)
theorem vo:bU X (.builtin "abs") rCall_absI:=by
 intro pins s σ H xs us Q I r h
 obtain⟨i,rfl,q⟩:=h
 obtain⟨u,rfl,t,rfl⟩:=cM r
 exact call_abs_int fun u tk=>⟨.int (if i<0 then -i else i),H,I.tok _,⟨_,rfl⟩,q⟩
inductive rCall_max2I(xs:List V)(H:Hp)(Q:VK):Prop | mk (i j) (_:xs=[.int i,.int j]) (_:Q (.int (if j > i then j else i)) H)
theorem rk(hc:X.calm=true):bU X (.builtin "max") rCall_max2I:=by
 intro pins s σ H xs us Q I r h
 obtain⟨i,j,rfl,q⟩:=h
 obtain⟨u,w',rfl,⟨t,rfl⟩,⟨t',rfl⟩⟩:=gP r
 refine max_two_ints (I.ok.hd hc) fun h' tk k=>⟨_,H,I.kept k,?_,q⟩
 by_cases hj:j > i
 ·rw [if_pos hj,if_pos hj]; exact⟨_,rfl⟩
 ·rw [if_neg hj,if_neg hj]; exact⟨_,rfl⟩
theorem rq:bU X (.type "int") (fun xs H Q=>(∃ i,xs=[.int i]∧Q (.int i) H)∨∃ k,xs=[.bl k]∧Q (.int (if k then 1 else 0)) H):=by
 intro pins s σ H xs us Q I r h
 rcases h with ⟨i,rfl,q⟩ | ⟨k,rfl,q⟩
 ·obtain⟨u,rfl,t,rfl⟩:=cM r
  exact call_int_int ⟨.int i,H,I,⟨_,rfl⟩,q⟩
 ·obtain⟨u,rfl,r1⟩:=cM r
  cases r1
  exact call_int_bool ⟨.int (if k then 1 else 0),H,I.tok _,⟨_,rfl⟩,q⟩
inductive rCall_divmodI(xs:List V)(H:Hp)(Q:VK):Prop | mk (i j) (_:xs=[.int i,.int j]) (_:AF i j) (_:∀ p,H p=none→Q (.ref p) (upd H p (.tup [.int (i / j),.int (i % j)])))
theorem mO:bU X (.builtin "divmod") rCall_divmodI:=by
 intro pins s σ H xs us Q I r h
 obtain⟨i,j,rfl,⟨h1,h2⟩,q⟩:=h
 obtain⟨u,w',rfl,⟨t,rfl⟩,⟨t',rfl⟩⟩:=gP r
 refine divmod_int (by omega) ?_ (.inl (PyProof.noPylong_small (by omega)))
 rw [Int.fdiv_eq_ediv_of_nonneg i (by omega),Int.fmod_eq_emod_of_nonneg i (by omega)]
 have hn:H s.heap.objs.size=none:=I.hok.fresh (Yg _)
 refine⟨.ref s.heap.objs.size,_,?_,rfl,q _ hn⟩
 refine I.laid (fun b o e=>Ye _ e) (Yg _) ⟨by simp only [Ys,YR]; rw [sizeLine_eq]; decide,[.int (i / j) s.toks,.int (i % j) (s.toks+1)],.cons ⟨_,rfl⟩ (.cons ⟨_,rfl⟩ .nil),?_⟩
 exact⟨_,Yo s.heap rfl,rfl,0,rfl⟩
end
structure oK(h:Heap)(x dx C:Addr)(mA:Str→Option Value):Prop where
 obj:h.get? x=some (PySem.W.instObj C dx)
 ns:h.Ns1 dx mA
 ne:dx≠x
theorem qM{h:Heap}{dx:Addr}{mA:Str→Option Value}(n:h.Ns1 dx mA):∃ od,h.get? dx=some od∧∀ name,PySem.W.lookIn name od=some (mA name):=by
 obtain⟨o,es,ep,ho,hd,hk,_,hm⟩:=n
 refine⟨o,ho,fun name=>?_⟩
 have e:=hm name
 unfold nsFind findBy at e
 rw [← Array.find?_toList] at e
 unfold PySem.W.lookIn
 rw [hd]
 dsimp only
 split
 ·rename_i y q
  rw [q] at e
  exact congrArg some e
 ·rename_i q
  rw [q] at e
  have a:es.toList.any (·.refKey)=false:=by
   rw [List.any_eq_false]
   intro y hy
   obtain⟨z,t,hkey⟩:=hk y (Array.mem_toList_iff.mp hy)
   simp [DictEntry.refKey,hkey]
  have a':¬ es.toList.any (·.refKey)=true:=by rw [a]; exact Yt
  rw [if_neg a']
  exact congrArg some e
theorem oK.look{h:Heap}{x dx C:Addr}{mA:Str→Option Value}(I:oK h x dx C mA):∃ od,PySem.W.InstAt h x (PySem.W.instObj C dx) C (some od)∧∀ name,PySem.W.lookIn name od=some (mA name):=
 let ⟨od,ho,hl⟩:=qM I.ns
 ⟨od,⟨I.obj,rfl,rfl,ho⟩,hl⟩
section
variable{prog:Program}{w:World}{A:Around}{E:Value→Shared→Prop}{s:Shared}{K:XC}{x dx C f:Addr}{mA:Str→Option Value}{name:Str}{v:Value}
theorem xg{expr:Bool}{Q:Value→Shared→Prop}(X:K.In s.heap)(I:oK s.heap x dx C mA)(hg:PySem.W.plainGet K C name=true)(hh:PySem.W.hasDictIn K C=true)
  (ha:PySem.W.findIn K (.ref C) name=some none) (hv:mA name=some v) (hv':PySem.W.handedIn v=true) (h:Q v {s with toks:=s.toks+1}) :
  wpAny (model prog w) A (getAttr (.ref x) name expr) Q E s:=by
 obtain⟨od,J,hl⟩:=I.look
 exact PySem.W.get_value X J (PySem.W.plainGet_of hg).1 (PySem.W.findObj_own hh ha rfl (by rw [hl,hv])) hv' h
theorem uW{pl:Sem Bool}{Q:Value×List Value→Shared→Prop}(X:K.In s.heap)(I:oK s.heap x dx C mA)(hg:PySem.W.plainGet K C name=true)
  (hf:PySem.W.findIn K (.ref C) name=some (some (.ref f))) (ht:PySem.W.isFn K (.ref f)=true) (hv:mA name=none) (h:Q (.ref f,[.ref x]) s) :
  wpAny (model prog w) A (getMethod (.ref x) name pl) Q E s:=by
 obtain⟨od,J,hl⟩:=I.look
 exact PySem.W.method_fn X J (PySem.W.plainGet_of hg).1 (PySem.W.plainGet_of hg).2 hf (beq_iff_eq.mp ht) (by show (PySem.W.lookIn name od).map (·.isSome)=some false; rw [hl,hv]; rfl) h
theorem vM{ns:List Str}{Q:Unit→Shared→Prop}(X:K.In s.heap)(I:oK s.heap x dx C mA)
  (hs:PySem.W.findIn K (.ref C) "__setattr__"=some (some (.builtin "object.__setattr__"))) (hp:PySem.W.plainOver K C=true) (ht:PySem.W.takerIn K C name=some none) (hh:PySem.W.hasDictIn K C=true)
  (hw:PySem.Within mA ns) (hsz:ns.length≤sizeLine)
  (h:∀ h',oK h' x dx C (fun y=>if y=name then some v else mA y)→YX dx s.heap h'→Q () {s with heap:=h',toks:=s.toks+2}) :
  wpAny (model prog w) A (setAttr (.ref x) name v) Q E s:=by
 obtain⟨od,J,hl⟩:=I.look
 refine PySem.W.set_plain X J hs (PySem.W.osa_open (s:={s with toks:=s.toks+1}) (r:=none) X J hp ht fun b=>?_)
 obtain⟨cd,hc,hd'⟩:=PySem.W.any_some hh
 have hx:s.heap.get? x=some ⟨.ref C,some dx,.plain,#[]⟩:=I.obj
 refine Yd (Yf (Yd (Yd (wpAny_loadPart hx (Yd (PySem.W.Looks.here (s:={s with toks:=s.toks+1}) (PySem.W.looks_clsIn X hc) ?_))))))
 rw [hd']
 refine Yf (a:=some dx) (Yd (Yf (Yd ?_)))
 refine wpAny_nsSet1 (s:={s with toks:=s.toks+1}) I.ns fun h' hn2 hs2=>?_
 obtain⟨oD,esD,epD,hoD,hdD,hcD⟩:=hn2.count (PySem.Within.cons name v hw)
 refine Yd (wpAny_lookBehind hoD (by rw [hdD]; exact pastItsLine_dict (Yn hcD (by rw [Ys]; omega))) ?_)
 exact Yf (h _ ⟨(hs2.2 _ (Ne.symm I.ne)).trans I.obj,hn2,I.ne⟩ hs2)
theorem uI{R:Result→Shared→Prop}{vs:List Value}{kw:List (Str×Value)}(X:K.In s.heap)(hm:PySem.W.makesIn K C=true)
  (hi:PySem.W.findIn K (.ref C) "__init__"=some (some (.ref f))) (hf:PySem.W.typeIn K (.ref f)=some (.type "function"))
  (h:codeAny (model prog w) (A.under (.builtin "type.__call__" ⟨.ref C::vs,kw⟩)) (.call (.ref f) ⟨.ref (s.heap.objs.size+1)::vs,kw⟩) (PySem.W.InitBack (s.heap.objs.size+1) R)
   {s with heap:=(s.heap.push PySem.W.emptyDict).push (PySem.W.instObj C s.heap.objs.size)}) :
  codeAny (model prog w) A (.call (.ref C) ⟨vs,kw⟩) R s:=by
 obtain⟨hh,g,d,t,os⟩:=s
 exact PySem.W.make_core (PySem.W.makes_of X hm) (PySem.W.looks_findIn X hi) (fun self=>PySem.W.bind_fn X self hf) (.inl rfl) h
end
def aT(f:Str)(v:V):List (Str×V)→List (Str×V)
 | []=>[(f,v)]
 | (g,x)::r=>if g=f then (g,v)::r else (g,x)::aT f v r
theorem ao(f g:Str)(v:V):∀ fs:List (Str×V),(aT f v fs).lookup g=if g=f then some v else fs.lookup g
 | []=>by
  show List.lookup g [(f,v)]=_
  by_cases h:g=f
  ·have hb:(g==f)=true:=beq_iff_eq.mpr h
   simp only [List.lookup,hb,if_pos h]
  ·have hb:(g==f)=false:=beq_eq_false_iff_ne.mpr h
   simp only [List.lookup,hb,if_neg h]
 | (k,x)::r=>by
  have ih:=ao f g v r
  rw [show aT f v ((k,x)::r)=(if k=f then (k,v)::r else (k,x)::aT f v r) from rfl]
  by_cases hk:k=f
  ·rw [if_pos hk]
   by_cases h:g=k
   ·have hb:(g==k)=true:=beq_iff_eq.mpr h
    simp only [List.lookup,hb,if_pos (h.trans hk)]
   ·have hb:(g==k)=false:=beq_eq_false_iff_ne.mpr h
    simp only [List.lookup,hb,if_neg (fun e:g=f=>h (e.trans hk.symm))]
  ·rw [if_neg hk]
   by_cases h:g=k
   ·have hb:(g==k)=true:=beq_iff_eq.mpr h
    simp only [List.lookup,hb,if_neg (fun e:g=f=>hk (h.symm.trans e))]
   ·have hb:(g==k)=false:=beq_eq_false_iff_ne.mpr h
    simp only [List.lookup,hb]
    exact ih
theorem gJ(f:Str)(v:V):∀ fs:List (Str×V),f∈(aT f v fs).map (·.1)∧∀ g,g∈fs.map (·.1)→g∈(aT f v fs).map (·.1)
 | []=>⟨by simp [aT],fun g h=>by simp at h⟩
 | (k,x)::r=>by
  obtain⟨i1,i2⟩:=gJ f v r
  rw [show aT f v ((k,x)::r)=(if k=f then (k,v)::r else (k,x)::aT f v r) from rfl]
  by_cases hk:k=f
  ·rw [if_pos hk]
   subst hk
   exact⟨by simp,fun g h=>by simpa using h⟩
  ·rw [if_neg hk]
   refine⟨?_,fun g h=>?_⟩
   ·rw [YA]
    exact Yj _ i1
   ·rw [YA] at h ⊢
    rcases Yr.mp h with e | e
    ·exact Yr.mpr (.inl e)
    ·exact Yj _ (i2 g e)
theorem aL(f:Str)(v:V):∀ fs:List (Str×V),(aT f v fs).length≤fs.length+1
 | []=>by simp [aT]
 | (k,x)::r=>by
  have ih:=aL f v r
  rw [show aT f v ((k,x)::r)=(if k=f then (k,v)::r else (k,x)::aT f v r) from rfl]
  by_cases hk:k=f
  ·rw [if_pos hk,Ys,Ys]; omega
  ·rw [if_neg hk,Ys,Ys]; omega
theorem d5.some_of{v:V}{o:Option Value}(r:d5 (some v) o):∃ u,o=some u∧aq v u:=by
 cases o with
 | none=>exact(show False from r).elim
 | some u=>exact⟨u,rfl,r⟩
theorem d5.none_of{o:Option Value}(r:d5 none o):o=none:=by
 cases o with
 | none=>rfl
 | some u=>exact(show False from r).elim
theorem qU{v:V}{u:Value}(r:aq v u):PySem.W.handedIn u=true:=by
 cases v with
 | non=>cases (show u=Value.none from r); rfl
 | bl b=>cases (show u=Value.bool b from r); rfl
 | int i=>obtain⟨t,e⟩:=(show ∃ t,u=Value.int i t from r); cases e; rfl
 | str x=>obtain⟨t,e⟩:=(show ∃ t,u=Value.str x t from r); cases e; rfl
 | byt b=>obtain⟨t,e⟩:=(show ∃ t,u=Value.bytes b t from r); cases e; rfl
 | flt b=>obtain⟨t,e⟩:=(show ∃ t,u=Value.float b t from r); cases e; rfl
 | ref a=>cases (show u=Value.ref a from r); rfl
 | ty n=>cases (show u=Value.type n from r); rfl
section
variable{P:Program}{w:World}{H H':Hp}{h h':Heap}{a C dx:Addr}{fs fs':List (Str×V)}
theorem f8(hok:HOk P w H h)(e:H a=some (.ins C dx fs)):∃ mA,oK h a dx C mA∧(∀ f,d5 (fs.lookup f) (mA f))∧PySem.Within mA (fs.map (·.1))∧fs.length≤1000∧H dx=some (.own a):=by
 obtain⟨d,z,ne,ob,mA,n,r,q⟩:=(show aB P w H h a (.ins C dx fs) from hok a _ e)
 exact⟨mA,⟨ob,n,ne⟩,r,q,z,d⟩
end
structure Cls(K:XC)(C:Addr):Prop where
 pg:PySem.W.plainGet K C Str.empty=true
 hd:PySem.W.hasDictIn K C=true
 po:PySem.W.plainOver K C=true
 sa:PySem.W.findIn K (.ref C) "__setattr__"=some (some (.builtin "object.__setattr__"))
theorem Cls.get{K:XC}{C:Addr}(c:Cls K C)(f:Str):PySem.W.plainGet K C f=true:=c.pg
def cu(K:XC)(C:Addr)(f:Str):Prop:=PySem.W.findIn K (.ref C) f=some none
theorem cu.taker{K:XC}{C:Addr}{f:Str}(n:cu K C f):PySem.W.takerIn K C f=some none:=by
 unfold PySem.W.takerIn
 rw [show PySem.W.findIn K (.ref C) f=some none from n]
 rfl
structure vE(K:XC)(C:Addr)(m:Str)(f:Addr):Prop where
 at_:PySem.W.findIn K (.ref C) m=some (some (.ref f))
 fn:PySem.W.isFn K (.ref f)=true
 kp:PySem.W.keepIn K (.ref f)=true
section
variable{X:Cx}{pins:List (Addr×Obj)}{σ:St}{H:Hp}{s:Shared}{a C dx:Addr}{fs:List (Str×V)}{f:Str}{v:V}{A:Around}{E:Value→Shared→Prop}
theorem oq{b:Bool}{Q:Value→Shared→Prop}(I:Inv X pins σ H s)(e:H a=some (.ins C dx fs))(c:Cls X.K C)(n:cu X.K C f)(l:fs.lookup f=some v)
  (h:∀ u s',Inv X pins σ H s'→aq v u→Q u s'):wpAny (model X.prog X.w) A (getAttr (.ref a) f b) Q E s:=by
 obtain⟨mA,O,r,_,_,_⟩:=f8 I.hok e
 obtain⟨u,hu,ru⟩:=d5.some_of (v:=v) (o:=mA f) (by rw [← l]; exact r f)
 exact xg I.kIn O (c.get f) c.hd n hu (qU ru) (h u _ (I.tok _) ru)
theorem oo{m:Str}{g:Addr}{pl:Sem Bool}{Q:Value×List Value→Shared→Prop}(I:Inv X pins σ H s)(e:H a=some (.ins C dx fs))(c:Cls X.K C)(k:vE X.K C m g)(l:fs.lookup m=none)
  (h:Q (.ref g,[.ref a]) s):wpAny (model X.prog X.w) A (getMethod (.ref a) m pl) Q E s:=by
 obtain⟨mA,O,r,_,_,_⟩:=f8 I.hok e
 have hn:mA m=none:=d5.none_of (by rw [← l]; exact r m)
 exact uW I.kIn O (c.get m) k.at_ k.fn hn h
theorem nG{y:V}{u:Value}{Q:Unit→Shared→Prop}(I:Inv X pins σ H s)(e:H a=some (.ins C dx fs))(c:Cls X.K C)(n:cu X.K C f)(hl:fs.length<1000)(ry:aq y u)
  (h:∀ s',Inv X pins σ (upd H a (.ins C dx (aT f y fs))) s'→Q () s'):wpAny (model X.prog X.w) A (setAttr (.ref a) f u) Q E s:=by
 obtain⟨mA,O,r,wi,_,ho⟩:=f8 I.hok e
 have hz:(fs.map (·.1)).length≤sizeLine:=by rw [Yh,sizeLine_eq]; omega
 refine vM I.kIn O c.sa c.po n.taker c.hd wi hz fun h' O' sb=>h _ ?_
 have hd:∃ o,h'.get? dx=some o:=let ⟨o,_,_,e',_⟩:=O'.ns; ⟨o,e'⟩
 refine I.write (x:=a) (e:=dx) (by rw [e]; exact True.intro) (.inr ho) (fun b q hb z=>(sb.2 b hb).trans z) hd ?_
 refine⟨by rw [ac O.ne]; exact ho,?_,O.ne,O'.obj,_,O'.ns,fun g=>?_,fun g hg=>?_⟩
 ·have:=aL f y fs; omega
 ·show d5 ((aT f y fs).lookup g) (if g=f then some u else mA g)
  rw [ao]
  by_cases q:g=f
  ·rw [if_pos q,if_pos q]; exact ry
  ·rw [if_neg q,if_neg q]; exact r g
 ·by_cases q:g=f
  ·rw [q]; exact(gJ f y fs).1
  ·refine(gJ f y fs).2 g (wi g fun z=>hg ?_)
   show (if g=f then some u else mA g)=none
   rw [if_neg q]; exact z
theorem Inv.made(I:Inv X pins σ H s):Inv X pins σ (upd (upd H s.heap.objs.size (.own (s.heap.objs.size+1))) (s.heap.objs.size+1) (.ins C s.heap.objs.size []))
  {s with heap:=(s.heap.push PySem.W.emptyDict).push (PySem.W.instObj C s.heap.objs.size)}:=by
 have e1:(s.heap.push PySem.W.emptyDict).get? s.heap.objs.size=some PySem.W.emptyDict:=Yo s.heap rfl
 have e2:((s.heap.push PySem.W.emptyDict).push (PySem.W.instObj C s.heap.objs.size)).get? (s.heap.objs.size+1)=some (PySem.W.instObj C s.heap.objs.size):=by
  have:=Yo (s.heap.push PySem.W.emptyDict) (o:=PySem.W.instObj C s.heap.objs.size) rfl
  rwa [YO] at this
 have e3:(s.heap.push PySem.W.emptyDict).Ns s.heap.objs.size (fun _=>none):=⟨PySem.W.emptyDict,#[],_,e1,rfl,(fun e he=>absurd he (by simp)),fun _=>rfl⟩
 have I1:=I.laid (a:=s.heap.objs.size) (o:=.own (s.heap.objs.size+1)) (h':=s.heap.push PySem.W.emptyDict) (t':=s.toks) (fun b u q=>Ye _ q) (Yg _) ⟨_,e1⟩
 refine I1.laid (a:=s.heap.objs.size+1) (o:=.ins C s.heap.objs.size []) (t':=s.toks) (fun b u q=>Ye _ q) (Nat.le_of_eq (YO _ _)) ?_
 have ne:s.heap.objs.size≠s.heap.objs.size+1:=Yu (Y8 _)
 refine⟨by rw [ac ne,aa],Yy _,ne,e2,fun _=>none,(Heap.Ns1.of_empty e3).at fun o q=>Ye _ q,fun _=>True.intro,fun y hy=>absurd rfl hy⟩
theorem xx{prog:Program}{w:World}{env:Env}{e:Expr}{f:Str}{pos:Pos}{s:Shared}{Q:Value→Shared→Prop}(hb:attributeBase e f env (eval e env)=eval e env)
  (h:wpAny (model prog w) A (eval e env) (fun o s₁=>wpAny (model prog w) A (getAttr o f true) Q E s₁) E s):wpAny (model prog w) A (eval (.Attribute e f pos) env) Q E s:=
 Attribute_any_ h (by rw [arm_eval_Attribute,hb])
end
inductive tFldI(K:XC)(f:Str)(Q:VK)(x:V)(H1:Hp):Prop | mk (a C dx fs v) (_:x=.ref a) (_:H1 a=some (.ins C dx fs)) (_:Cls K C) (_:cu K C f) (_:fs.lookup f=some v) (_:Q v H1)
def AT(K:XC)(ta:TE)(f:Str):TE:=fun σ H Q=>ta σ H (tFldI K f Q)
inductive sFldI(K:XC)(f:Str)(D:dJ)(σ:St)(y x:V)(H2:Hp):Prop | mk (a C dx fs) (_:x=.ref a) (_:H2 a=some (.ins C dx fs)) (_:Cls K C) (_:cu K C f) (_:fs.length<1000) (_:D.nx σ (upd H2 a (.ins C dx (aT f y fs))))
def AW(K:XC)(ta tv:TE)(f:Str):TS:=fun D σ H=>tv σ H fun y H1=>ta σ H1 (sFldI K f D σ y)
section
variable{X:Cx}{o e value:Expr}{f:Str}{pos pos' tpos:Pos}{ta tv:TE}
theorem yJ(he:PE X e ta)(hb:attributeBase e f X.env (eval e X.env)=eval e X.env):PE X (.Attribute e f pos) (AT X.K ta f):=by
 intro pins s σ H Q I h
 refine xx hb (thn (he pins s σ H _ I h) fun u s1 ⟨x,H1,I1,rx,a,C,dx,fs,v,ex,ea,c,n,l,q⟩=>?_)
 subst ex
 obtain rfl:u=Value.ref a:=rx
 exact oq I1 ea c n l fun u' s2 I2 ru=>⟨v,H1,I2,ru,q⟩
theorem yA(ha:PE X o ta)(hv:PE X value tv)(hs:swapsWith value (some (.Attribute o f pos')) pos.line X.env=pure false):PS X (.Assign [.Attribute o f pos'] value pos) (AW X.K ta tv f):=by
 intro pins s σ H D I h
 refine plainObj_wpAny_Assign_Attribute (thn (hv pins s σ H _ I h) fun u s1 ⟨y,H1,I1,ry,q⟩=>thn (ha pins s1 σ H1 _ I1 q) fun ov s2 ⟨x,H2,I2,rx,a,C,dx,fs,ex,ea,c,n,l,q2⟩=>?_) hs
 subst ex
 obtain rfl:ov=Value.ref a:=rx
 exact nG I2 ea c n l ry fun s3 I3=>⟨σ,_,I3,q2⟩
end
section
variable{X:Cx}{pins:List (Addr×Obj)}{σ:St}{H:Hp}{s:Shared}{A:Around}{E:Value→Shared→Prop}{Q:Value→Shared→Prop}{c:Value}{b:Bool}
inductive d3(K:XC)(H:Hp):V→Value→Prop where
 | non:d3 K H .non (.type "NoneType")
 | bl (x:Bool):d3 K H (.bl x) (.type "bool")
 | int (i:Int):d3 K H (.int i) (.type "int")
 | str (x:Str):d3 K H (.str x) (.type "str")
 | flt (x:UInt64):d3 K H (.flt x) (.type "float")
 | lst {a:Addr} {xs:List V} (e:H a=some (.lst xs)):d3 K H (.ref a) (.type "list")
 | frz {a:Addr} {o:Obj} {xs:List V} (e:H a=some (.frz o (.lst xs))):d3 K H (.ref a) (.type "list")
 | tup {a:Addr} {xs:List V} (e:H a=some (.tup xs)):d3 K H (.ref a) (.type "tuple")
 | dK {a:Addr} {kvs:List (Key×V)} (e:H a=some (.dK kvs)):d3 K H (.ref a) (.type "dict")
 | dT {a:Addr} {kvs:List (List Key×V)} (e:H a=some (.dT kvs)):d3 K H (.ref a) (.type "dict")
 | ins {a C dx:Addr} {fs:List (Str×V)} (e:H a=some (.ins C dx fs)) (cl:Cls K C) (ha:PySem.W.findIn K (.ref C) "__class__"=some (some (.builtin "object.__class__")))
   (hn:PySem.W.specialIn K (.builtin "object.__class__") "__get__"=some (some (.builtin "getset_descriptor.__get__"))) (htk:PySem.W.takesIn K (.builtin "object.__class__")=some true)
   (hm:PySem.W.mroIn K C (.type "object")=some true):d3 K H (.ref a) (.ref C)
theorem qR{x:V}{u t:Value}(I:Inv X pins σ H s)(rx:aq x u)(ty:d3 X.K H x t)(e:PySem.W.kitOne X.K t c=some b)(h:∀ tk,Q (.bool b) {s with toks:=tk}):
  wpAny (model X.prog X.w) A (call (.builtin "isinstance") [u,c]) Q E s:=by
 cases ty with
 | non=>cases (show u=Value.none from rx); exact PySem.W.kia_one PySem.W.kitx_none I.kIn True.intro e (fun z=>nomatch z) h
 | bl y=>cases (show u=Value.bool y from rx); exact PySem.W.kia_one PySem.W.kitx_bool I.kIn True.intro e (fun z=>nomatch z) h
 | int i=>obtain⟨t,q⟩:=(show ∃ t,u=Value.int i t from rx); cases q; exact PySem.W.kia_one PySem.W.kitx_int I.kIn True.intro e (fun z=>nomatch z) h
 | str y=>obtain⟨t,q⟩:=(show ∃ t,u=Value.str y t from rx); cases q; exact PySem.W.kia_one PySem.W.kitx_str I.kIn True.intro e (fun z=>nomatch z) h
 | flt y=>obtain⟨t,q⟩:=(show ∃ t,u=Value.float y t from rx); cases q; exact PySem.W.kia_one PySem.W.kitx_float I.kIn True.intro e (fun z=>nomatch z) h
 | @lst a xs ea=>
  cases (show u=Value.ref a from rx)
  obtain⟨_,_,n,_,h1⟩:=(show aB X.prog X.w H s.heap a (.lst xs) from I.hok a _ ea)
  exact PySem.W.kia_one PySem.W.kitx_list I.kIn ⟨_,h1,rfl⟩ e (fun z=>nomatch z) h
 | @frz a ob xs ea=>
  cases (show u=Value.ref a from rx)
  obtain⟨_,_,_,n,_,h1⟩:=(show aB X.prog X.w H s.heap a (.frz ob (.lst xs)) from I.hok a _ ea)
  exact PySem.W.kia_one PySem.W.kitx_list I.kIn ⟨_,h1,rfl⟩ e (fun z=>nomatch z) h
 | @tup a xs ea=>
  cases (show u=Value.ref a from rx)
  obtain⟨_,_,_,p⟩:=(show aB X.prog X.w H s.heap a (.tup xs) from I.hok a _ ea)
  obtain⟨o,h1,h2,_⟩:=p
  exact PySem.W.kia_one PySem.W.kitx_tuple I.kIn ⟨o,h1,h2⟩ e (fun z=>nomatch z) h
 | @dK a kvs ea=>
  cases (show u=Value.ref a from rx)
  obtain⟨_,_,vs,_,p⟩:=(show aB X.prog X.w H s.heap a (.dK kvs) from I.hok a _ ea)
  obtain⟨o,es,ep,h1,h2,_⟩:=p
  exact PySem.W.kia_one PySem.W.kitx_dict I.kIn ⟨o,h1,h2.1⟩ e (fun z=>nomatch z) h
 | @dT a kvs ea=>
  cases (show u=Value.ref a from rx)
  obtain⟨_,_,xs,_,o,es,ep,h1,h2,_⟩:=(show aB X.prog X.w H s.heap a (.dT kvs) from I.hok a _ ea)
  exact PySem.W.kia_one PySem.W.kitx_dict I.kIn ⟨o,h1,h2.1⟩ e (fun z=>nomatch z) h
 | @ins a C dx fs ea cl ha hn htk hm=>
  cases (show u=Value.ref a from rx)
  obtain⟨mA,O,_⟩:=f8 I.hok ea
  obtain⟨od,J,_⟩:=O.look
  exact PySem.W.kia_one (PySem.W.kitx_own (cl.get _) cl.hd ha hn htk hm) I.kIn J e (fun z=>nomatch z) h
end
structure aI(k:Nat)(A:Around):Prop where
 hd:A.handled=none
 gd:A.guards=some []
 dp:A.depth+3*k+5<recursionLimit
 un:A.units+16*k+200<cLine
theorem aI.mono{j k:Nat}{A:Around}(r:aI k A)(h:j≤k):aI j A:=⟨r.hd,r.gd,by have:=r.dp; omega,by have:=r.un; omega⟩
theorem aI.deeper{k:Nat}{A:Around}(r:aI (k+1) A)(env:Env):aI k (A.deeper env):=
 ⟨r.hd,r.gd,by have:=r.dp; show A.depth+1+3*k+5<_; omega,by have:=r.un; show A.units+3+16*k+200<_; omega⟩
theorem oa{A:Around}{C:Addr}{us:List Value}{kw:List (Str×Value)}:(A.under (.builtin "type.__call__" ⟨.ref C::us,kw⟩)).depth=A.depth+1:=by
 first | rfl | simp [Around.under,Code.weight,Code.isCreation,Code.isGuard,Code.isCaller,Code.frames,Code.isFrame,guardIds]
theorem n9{A:Around}{C:Addr}{us:List Value}{kw:List (Str×Value)}:(A.under (.builtin "type.__call__" ⟨.ref C::us,kw⟩)).units=A.units+1:=by
 first | rfl | simp [Around.under,Code.cUnits,Code.frames,Code.isFrame]
theorem mn{A:Around}{C:Addr}{us:List Value}{kw:List (Str×Value)}:(A.under (.builtin "type.__call__" ⟨.ref C::us,kw⟩)).guards=A.guards:=by
  first
    | rfl
    | (show pushGuards (Code.guards _) A.guards=A.guards
       have e:Code.guards (.builtin "type.__call__" ⟨.ref C::us,kw⟩)=[]:=by first | rfl | (simp [Code.guards,Code.isGuard,guardIds])
       rw [e,pushGuards_eq]
       cases A.guards <;> simp)
theorem aI.make{k:Nat}{A:Around}(r:aI (k+1) A)(C:Addr)(us:List Value)(kw:List (Str×Value)):aI k (A.under (.builtin "type.__call__" ⟨.ref C::us,kw⟩)):=
 ⟨r.hd,by rw [mn]; exact r.gd,by have:=r.dp; rw [oa]; omega,by have:=r.un; rw [n9]; omega⟩
theorem aI.depth{k:Nat}{A:Around}(r:aI k A):A.depth<recursionLimit:=by have:=r.dp; omega
theorem aI.units{k:Nat}{A:Around}(r:aI k A):A.units+64<cLine:=by have:=r.un; omega
theorem aI.units0{k:Nat}{A:Around}(r:aI k A):A.units<cLine:=by have:=r.un; omega
def eY:TA:=fun _ H Q=>Q [] H
def iu(ta:TE)(tr:TA):TA:=fun σ H Q=>ta σ H fun x H1=>tr σ H1 fun xs H2=>Q (x::xs) H2
section
variable{X:Cx}{e:Expr}{es:List Expr}{te:TE}{t:TA}{pos:Pos}
theorem be:PA X [] eY:=fun _ _ _ _ H Q I h=>Calls.spliced_nil ⟨[],H,I,.nil,h⟩
theorem aw(ha:PE X e te)(hr:PA X es t)(hs:starEach (e::es) X.env=(false,eval e X.env)::starEach es X.env:=by rfl):PA X (e::es) (iu te t):=by
 intro pos pins s σ H Q I h
 rw [hs]
 show wpAny _ _ (spliced ((false,eval e X.env)::backTo pos (starEach es X.env))) _ _ s
 refine Calls.spliced_cons (thn (ha pins s σ H _ I h) fun u s1 ⟨x,H1,I1,r1,q1⟩=>?_)
 exact thn (hr pos pins s1 σ H1 _ I1 q1) fun us s2 ⟨xs,H2,I2,r2,q2⟩=>⟨x::xs,H2,I2,.cons r1 r2,q2⟩
def AL(t:TA):TE:=fun σ H Q=>t σ H fun xs H1=>xs.length≤sizeLine∧∀ p,H1 p=none→Q (.ref p) (upd H1 p (.tup xs))
def AR(t:TA):TE:=fun σ H Q=>t σ H fun xs H1=>xs.length≤sizeLine∧∀ p,H1 p=none→Q (.ref p) (upd H1 p (.lst xs))
theorem kH{x1}(h:PA X es t):PE X (.Tuple es x1 pos) (AL t):=by
 intro pins s σ H Q I hq
 refine wpAny_Tuple_spliced (thn (h pos pins s σ H _ I hq) fun us s1 ⟨xs,H1,I1,r,z,q⟩=>⟨by rw [← r.length]; exact z,?_⟩)
 have hf:H1 s1.heap.objs.size=none:=I1.hok.fresh (Yg _)
 refine⟨.ref s1.heap.objs.size,upd H1 s1.heap.objs.size (.tup xs),I1.laid (t':=s1.toks) (fun b u e=>Ye _ e) (Yg _) ?_,rfl,q _ hf⟩
 exact⟨z,us,r,⟨_,Yo _ rfl,rfl,_,rfl⟩⟩
theorem kI(h:PA X es t):PE X (.List es pos) (AR t):=by
 intro pins s σ H Q I hq
 refine wpAny_List_spliced (thn (h pos pins s σ H _ I hq) fun us s1 ⟨xs,H1,I1,r,z,q⟩=>⟨by rw [← r.length]; exact z,?_⟩)
 have hf:H1 s1.heap.objs.size=none:=I1.hok.fresh (Yg _)
 refine⟨.ref s1.heap.objs.size,upd H1 s1.heap.objs.size (.lst xs),I1.laid (t':=s1.toks) (fun b u e=>Ye _ e) (Yg _) ?_,rfl,q _ hf⟩
 exact⟨z,us,0,r,Yo _ rfl⟩
end
abbrev Sp:=List V→Hp→VK→XK→Prop
abbrev CXT:=List Env→Hp→Shared→XK→Value→Shared→Prop
structure lj(P:Program)(w:World)(K:XC)(mg:Str→Option Value)(base:Heap)(A:Around)(outer:List Env)(s:Shared)(H:Hp):Prop where
 frames:A.frames=some outer
 mod:Mod K mg base
 bs:∀ b o,base.get? b=some o→s.heap.get? b=some o∧H b=none
 bsz:base.objs.size≤s.heap.objs.size
 funs:s.heap.FunFrames base outer
 frf:∀ b∈frs outer,H b=none
 hok:HOk P w H s.heap
 bare:AllBare s.gens
def CE(outer:List Env)(P:Program)(w:World)(H:Hp)(s:Shared)(Q:VK)(u:Value)(s':Shared):Prop:=
 ∃ v H',s'.os=s.os∧AllBare s'.gens∧Un (frs outer) [] H H' s.heap s'.heap∧HOk P w H' s'.heap∧aq v u∧Q v H'
def CR(CX:CXT)(outer:List Env)(P:Program)(w:World)(H:Hp)(s:Shared)(Q:VK)(E:XK)(r:Result)(s':Shared):Prop:=
 match r with
 | .ok (.ret u)=>CE outer P w H s Q u s'
 | .ok _=>False
 | .error e=>CX outer H s E e s'
structure cK(P:Program)(w:World)(K:XC)(mg:Str→Option Value)(base:Heap)(CX:CXT)(k:Nat)(f:Addr)(fd:FuncData)(ps:List Str)(sp:Sp):Prop where
 len:∀ vs H Q E,sp vs H Q E→vs.length=ps.length
 run:∀ (A:Around) (outer:List Env) (s:Shared) (H:Hp) (args:Args) (us:List Value) (vs:List V) (Q:VK) (E:XK),aI k A→lj P w K mg base A outer s H→BindsTo s fd args (ps.zip us)→ap vs us→sp vs H Q E→
  codeAny (model P w) A (.call (.ref f) args) (CR CX outer P w H s Q E) s
theorem lj.make{P:Program}{w:World}{K:XC}{mg:Str→Option Value}{base:Heap}{A:Around}{outer:List Env}{s:Shared}{H:Hp}(e:lj P w K mg base A outer s H)(C:Addr)(us:List Value)(kw:List (Str×Value)):
  lj P w K mg base (A.under (.builtin "type.__call__" ⟨.ref C::us,kw⟩)) outer s H:=⟨by first | exact e.frames | (simpa [Around.under,Code.envs,Code.isFrame,pushEnvs] using e.frames),e.mod,e.bs,e.bsz,e.funs,e.frf,e.hok,e.bare⟩
section
variable{X:Cx}{pins:List (Addr×Obj)}{σ:St}{H:Hp}{s s':Shared}
theorem Inv.env0(I:Inv X pins σ H s):lj X.prog X.w X.K X.mg X.base X.A X.stack s H:=
 ⟨I.ok.frames,I.ok.mod,I.bs,Yn I.ok.bsz I.sz,I.stack,I.stkFree,I.hok,I.bare⟩
theorem Inv.after{Q:VK}{u:Value}(I:Inv X pins σ H s)(h:CE X.stack X.prog X.w H s Q u s'):EP X pins σ Q u s':=by
 obtain⟨v,H',os,bare,un,hok,r,q⟩:=h
 obtain⟨hh,g,d,t,os'⟩:=s'
 obtain rfl:os'=s.os:=os
 exact⟨v,H',I.call (h':=hh) (g':=g) (d':=d) (t':=t) (ch:=[]) un hok bare (fun b z=>absurd z (by simp)),r,q⟩
end
def fM(sp:Sp)(dvs:List V)(E:XK)(t:TA):TE:=fun σ H Q=>t σ H fun vs H1=>sp (vs++dvs) H1 Q E
inductive tMethI(C:Addr)(m:Str)(sp:Sp)(dvs:List V)(E:XK)(t:TA)(σ:St)(Q:VK)(x:V)(H1:Hp):Prop | mk (a dx fs) (_:x=.ref a) (_:H1 a=some (.ins C dx fs)) (_:fs.lookup m=none) (_:t σ H1 fun vs H2=>sp (x::(vs++dvs)) H2 Q E)
def zN(C:Addr)(m:Str)(sp:Sp)(dvs:List V)(E:XK)(ta:TE)(t:TA):TE:=fun σ H Q=>ta σ H (tMethI C m sp dvs E t σ Q)
def zO(C:Addr)(sp:Sp)(dvs:List V)(E:XK)(t:TA):TE:=fun σ H Q=>t σ H fun vs H1=>∀ x dx,H1 x=none→H1 dx=none→dx≠x→
 sp (.ref x::(vs++dvs)) (upd (upd H1 dx (.own x)) x (.ins C dx [])) (fun v H2=>v=.non∧Q (.ref x) H2) E
def cg(K:XC)(fd:FuncData)(ps:List Str)(ds:List Value):Prop:=
 ∀ (s:Shared) (us:List Value),K.In s.heap→(us++ds).length=ps.length→BindsTo s fd ⟨us,[]⟩ (ps.zip (us++ds))
theorem cg.all{K:XC}{fd:FuncData}{ps:List Str}(h:∀ us:List Value,us.length=ps.length→bindArgs fd ⟨us,[]⟩=pure (ps.zip us)):cg K fd ps []:=fun s us _ hl=>by
 rw [YS] at hl ⊢
 exact .of_eq (h us hl)
def fE(CX:CXT)(X:Cx)(E:XK):Prop:=∀ (pins:List (Addr×Obj)) (σ:St) (H:Hp) (s:Shared) (e:Value) (s':Shared),Inv X pins σ H s→CX X.stack H s E e s'→X.xe e s'
section
variable{X:Cx}{CX:CXT}{k:Nat}{f C:Addr}{fd:FuncData}{ps:List Str}{sp:Sp}{dvs:List V}{ds:List Value}{E:XK}{x m:Str}{p pos apos:Pos}{e o:Expr}{es:List Expr}{ta:TE}{t:TA}
theorem sK{pins:List (Addr×Obj)}{σ:St}{H:Hp}{s:Shared}{Q:VK}{us:List Value}{vs:List V}(F:cK X.prog X.w X.K X.mg X.base CX k f fd ps sp)(hr:aI k X.A)(hb:cg X.K fd ps ds)(hd:ap dvs ds)(hx:fE CX X E)
  (I:Inv X pins σ H s) (r:ap vs us) (h:sp (vs++dvs) H Q E):wpAny (model X.prog X.w) X.A (call (.ref f) us) (EP X pins σ Q) X.xe s:=by
 have r2:ap (vs++dvs) (us++ds):=r.append hd
 have hl:(us++ds).length=ps.length:=by rw [← r2.length]; exact F.len _ _ _ _ h
 refine wpAny_call (codeAny_mono (F.run X.A X.stack s H ⟨us,[]⟩ (us++ds) (vs++dvs) Q E hr I.env0 (hb s us I.kIn hl) r2 h) fun r s' hq=>?_)
 cases r with
 | error e=>exact hx pins σ H s e s' I hq
 | ok fl=>
  cases fl with
  | ret u=>exact I.after hq
  | next=>exact False.elim hq
  | brk=>exact False.elim hq
  | cont=>exact False.elim hq
theorem pv(F:cK X.prog X.w X.K X.mg X.base CX k f fd ps sp)(hr:aI k X.A)(hg:Gl X x)(hm:X.mg x=some (.ref f))(hk:PySem.W.keepIn X.K (.ref f)=true)(hb:cg X.K fd ps ds)(hd:ap dvs ds)(hx:fE CX X E)
  (ha:PA X (e::es) t) (hdb:(x==("__debug__":Str))=false:=by decide) (he:starEach (e::es) X.env=(false,eval e X.env)::starEach es X.env:=by rfl) (hpl:(backTo pos (starEach es X.env)).any (·.1)=false:=by rfl) :
  PE X (.Call (.Name x p) (e::es) [] pos) (fM sp dvs E t):=by
 intro pins s σ H Q I h
 refine wpAny_Call_Name_kw (eM I hg hm ?_ hdb)
 refine PySem.W.callWith_K (h₀:=X.base) I.ok.mod.kin hk (thn (ha pos pins s σ H _ I h) fun us s1 ⟨vs,H1,I1,r,q⟩=>⟨I1.kIn,?_⟩) he hpl
 exact sK F hr hb hd hx I1 r q
theorem tI{pl:Sem Bool}(he:PE X o ta)(c:Cls X.K C)(hm:vE X.K C m f)(F:cK X.prog X.w X.K X.mg X.base CX k f fd ps sp)(hr:aI k X.A)(hb:cg X.K fd ps ds)(hd:ap dvs ds)(hx:fE CX X E)
  (ht:eval (.Call (.Attribute o m apos) [] [] pos) X.env=(do
   let ov ← eval o X.env
   standAt apos.atName
   let (f,first) ← holding [ov] (getMethod ov m pl)
   callWith pos f first (backTo pos (starEach [] X.env)) (backToKw pos (keywordEach [] X.env))):=by rfl) :
  PE X (.Call (.Attribute o m apos) [] [] pos) (zN C m sp dvs E ta eY):=by
 intro pins s σ H Q I h
 refine PySem.W.methodCall_KW (pl:=pl) (thn (he pins s σ H _ I h) fun u s1 ⟨x,H1,I1,rx,a,dx,fs,ex,ea,l,q⟩=>?_) ht
 subst ex
 obtain rfl:u=Value.ref a:=rx
 refine oo I1 ea c hm l ?_
 exact PySem.W.callWith_K0 (first:=[.ref a]) I1.kIn hm.kp (sK (us:=[.ref a]) (vs:=[.ref a]) F hr hb hd hx I1 (.cons rfl .nil) q)
structure Mk(K:XC)(C f:Addr):Prop where
 makes:PySem.W.makesIn K C=true
 init:PySem.W.findIn K (.ref C) "__init__"=some (some (.ref f))
 fn:PySem.W.isFn K (.ref f)=true
 kp:PySem.W.keepIn K (.ref C)=true
theorem sJ{pins:List (Addr×Obj)}{σ:St}{H:Hp}{s:Shared}{Q:VK}{us:List Value}{vs:List V}(M:Mk X.K C f)(F:cK X.prog X.w X.K X.mg X.base CX k f fd ps sp)(hr:aI (k+1) X.A)(hb:cg X.K fd ps ds)(hd:ap dvs ds)
  (hx:fE CX X E) (I:Inv X pins σ H s) (r:ap vs us)
  (h:∀ x dx,H x=none→H dx=none→dx≠x→sp (.ref x::(vs++dvs)) (upd (upd H dx (.own x)) x (.ins C dx [])) (fun v H2=>v=.non∧Q (.ref x) H2) E) :
  wpAny (model X.prog X.w) X.A (call (.ref C) us) (EP X pins σ Q) X.xe s:=by
 have hq:=h (s.heap.objs.size+1) s.heap.objs.size (I.hok.fresh (Nat.le_succ _)) (I.hok.fresh (Yg _)) (Yu (Y8 _))
 have I2:=Inv.made (C:=C) I
 have r2:ap (V.ref (s.heap.objs.size+1)::(vs++dvs)) (Value.ref (s.heap.objs.size+1)::(us++ds)):=.cons rfl (r.append hd)
 have hl:(Value.ref (s.heap.objs.size+1)::us++ds).length=ps.length:=by
  have e:=r2.length
  rw [F.len _ _ _ _ hq] at e
  exact e.symm
 refine wpAny_call (uI (f:=f) I.kIn M.makes M.init (beq_iff_eq.mp M.fn) (codeAny_mono (F.run _ X.stack _ _ ⟨Value.ref (s.heap.objs.size+1)::us,[]⟩ (Value.ref (s.heap.objs.size+1)::(us++ds)) _ _ E (hr.make C us [])
  (I2.env0.make C us []) (hb _ (Value.ref (s.heap.objs.size+1)::us) I2.kIn hl) r2 hq) fun r s' hq'=>?_))
 cases r with
 | error e=>exact hx pins σ _ _ e s' I2 hq'
 | ok fl=>
  cases fl with
  | ret u=>
   obtain⟨v,H',I3,rv,ev,q3⟩:=I2.after hq'
   subst ev
   exact⟨rv,⟨V.ref (s.heap.objs.size+1),H',I3,rfl,q3⟩⟩
  | next=>exact False.elim hq'
  | brk=>exact False.elim hq'
  | cont=>exact False.elim hq'
theorem wm(M:Mk X.K C f)(F:cK X.prog X.w X.K X.mg X.base CX k f fd ps sp)(hr:aI (k+1) X.A)(hg:Gl X x)(hm:X.mg x=some (.ref C))(hb:cg X.K fd ps ds)(hd:ap dvs ds)(hx:fE CX X E)
  (ha:PA X (e::es) t) (hdb:(x==("__debug__":Str))=false:=by decide) (he:starEach (e::es) X.env=(false,eval e X.env)::starEach es X.env:=by rfl) (hpl:(backTo pos (starEach es X.env)).any (·.1)=false:=by rfl) :
  PE X (.Call (.Name x p) (e::es) [] pos) (zO C sp dvs E t):=by
 intro pins s σ H Q I h
 refine wpAny_Call_Name_kw (eM I hg hm ?_ hdb)
 refine PySem.W.callWith_K (h₀:=X.base) I.ok.mod.kin M.kp (thn (ha pos pins s σ H _ I h) fun us s1 ⟨vs,H1,I1,r,q⟩=>⟨I1.kIn,?_⟩) he hpl
 exact sJ M F hr hb hd hx I1 r q
end
def PK(X:Cx)(kws:List Keyword)(t:TA):Prop:=
 ∀ (pos:Pos) (pins:List (Addr×Obj)) (s:Shared) (σ:St) (H:Hp) (Q:List V→Hp→Prop),Inv X pins σ H s→t σ H Q→wpAny (model X.prog X.w) X.A (evalAll ((backToKw pos (keywordEach kws X.env)).map (·.2))) (AP X pins σ Q) X.xe s
section
variable{X:Cx}{CX:CXT}{k:Nat}{f C:Addr}{fd:FuncData}{ps ks:List Str}{sp:Sp}{E:XK}{x m:Str}{p pos apos kpos:Pos}{e o:Expr}{es:List Expr}{kws:List Keyword}{te ta:TE}{t tk:TA}{nm:Option Str}
variable{g:List Value→List Value→List Value}{gV:List V→List V→List V}
end
structure aj(N P:List Str)(sc:Scope):Prop where
 kind:sc.kind=.function
 co:sc.isCoroutine=false
 gen:sc.isGenerator=false
 nd:N.Nodup
 pre:N.take P.length=P
 par:∀ x∈P,sc.names.lookup x=some .local∨sc.names.lookup x=some .cell
 nofree:∀ y∈sc.names,y.2≠.free
theorem j6{kindOf:Str→Option NameKind}{x:Str}:∀ {binds:List (Str×Value)} {m:Str→Option Value},(∀ v,(x,v)∉binds)→bindL kindOf binds m x=m x
 | [],_,_=>rfl
 | (n,v)::r,m,h=>by
  unfold bindL
  rw [j6 fun w hw=>h w (Yj _ hw)]
  split
  ·have : x≠n:=by rintro rfl; exact h v Yl
   simp [this]
  ·rfl
theorem j7{kindOf:Str→Option NameKind}{x:Str}:∀ {binds:List (Str×Value)} {m:Str→Option Value},(∀ v,(x,v)∉binds)→bindC kindOf binds m x=m x
 | [],_,_=>rfl
 | (n,v)::r,m,h=>by
  unfold bindC
  rw [j7 fun w hw=>h w (Yj _ hw)]
  split
  ·rfl
  ·have : x≠n:=by rintro rfl; exact h v Yl
   simp [this]
theorem gM{kindOf:Str→Option NameKind}{x:Str}{v:Value}:∀ {P:List Str} {vs:List Value} {i:Nat} {m:Str→Option Value},P.Nodup→P[i]? = some x→vs[i]? = some v→kindOf x=some .local→
  bindL kindOf (P.zip vs) m x=some v
 | [],_,_,_,_,h,_,_=>by simp at h
 | _::_,[],_,_,_,_,h,_=>by simp at h
 | p::P,w::vs,0,m,nd,h1,h2,hk=>by
  simp at h1 h2; subst h1; subst h2
  show bindL kindOf ((p,w)::P.zip vs) m p=_
  unfold bindL
  rw [j6 fun v hv=>(YH.mp nd).1 (List.of_mem_zip hv).1,if_pos hk]
  simp
 | p::P,w::vs,i+1,m,nd,h1,h2,hk=>by
  show bindL kindOf ((p,w)::P.zip vs) m x=_
  unfold bindL
  exact gM (i:=i) (YH.mp nd).2 (by simpa using h1) (by simpa using h2) hk
theorem gN{kindOf:Str→Option NameKind}{x:Str}{v:Value}:∀ {P:List Str} {vs:List Value} {i:Nat} {m:Str→Option Value},P.Nodup→P[i]? = some x→vs[i]? = some v→kindOf x≠some .local→
  bindC kindOf (P.zip vs) m x=some v
 | [],_,_,_,_,h,_,_=>by simp at h
 | _::_,[],_,_,_,_,h,_=>by simp at h
 | p::P,w::vs,0,m,nd,h1,h2,hk=>by
  simp at h1 h2; subst h1; subst h2
  show bindC kindOf ((p,w)::P.zip vs) m p=_
  unfold bindC
  rw [j7 fun v hv=>(YH.mp nd).1 (List.of_mem_zip hv).1,if_neg hk]
  simp
 | p::P,w::vs,i+1,m,nd,h1,h2,hk=>by
  show bindC kindOf ((p,w)::P.zip vs) m x=_
  unfold bindC
  exact gN (i:=i) (YH.mp nd).2 (by simpa using h1) (by simpa using h2) hk
def b8(N:List Str)(vs:List V):St:=vs.map some++List.replicate (N.length-vs.length) none
def jo(CX:CXT)(P:Program)(w:World)(K:XC)(mg:Str→Option Value)(base:Heap)(N:List Str)(qual:Str)(scope:Scope)(f:Addr)(cd:Value)(A:Around)(outer:List Env)(s:Shared)(H:Hp)(E:XK):Cx where
 prog:=P
 w:=w
 K:=K
 mg:=mg
 base:=base
 A:=A.deeper (envOfC qual scope s.heap.objs.size f cd)
 N:=N
 s₀:=s
 H₀:=H
 env:=envOfC qual scope s.heap.objs.size f cd
 outer:=outer
 stack:=envOfC qual scope s.heap.objs.size f cd::outer
 ex:=[]
 calm:=true
 fn:=fun _=>true
 pn:=[]
 xe:=fun e s'=>wpAny (model P w) (A.deeper (envOfC qual scope s.heap.objs.size f cd)) (leaving (envOfC qual scope s.heap.objs.size f cd) e) (fun _ s''=>CX outer H s E e s'') (fun e' s''=>CX outer H s E e' s'') s'
theorem gh{sc:Scope}{n:Nat}{x:Str}(h:sc.names.lookup x=some .cell):∃ c,(cellsFrom n sc.names []).lookup x=some c:=by
 have q:=PySem.W.cellsFrom_some sc.names n [] (.inl h)
 exact Option.isSome_iff_exists.mp q
theorem qS{CX:CXT}{P:Program}{w:World}{K:XC}{mg:Str→Option Value}{base:Heap}{N ps:List Str}{qual:Str}{scope:Scope}{f:Addr}{cd:Value}{A:Around}{outer:List Env}{s s1:Shared}{H:Hp}{E:XK}{us:List Value}{vs:List V}
  (S:aj N ps scope) (hd:A.handled=none) (e0:lj P w K mg base A outer s H) (hl:vs.length=ps.length) (r:ap vs us)
  (x:InCallC s s.heap.objs.size (bindL (envOfC qual scope s.heap.objs.size f cd).kindOf (ps.zip us) fun _=>none) (cellsFrom (s.heap.objs.size+1) scope.names []) (bindC (envOfC qual scope s.heap.objs.size f cd).kindOf (ps.zip us) fun _=>none) s1) :
  Inv (jo CX P w K mg base N qual scope f cd A outer s H E) [] (b8 N vs) H s1:=by
 have hpl:ps.length≤N.length:=by have:=congrArg List.length S.pre; rw [YV] at this; omega
 obtain⟨h1,tk,rfl,hk⟩:=x.done
 have noA:∀ b:Addr,b∉(jo CX P w K mg base N qual scope f cd A outer s H E).ex:=fun b z=>absurd (show b∈([]:List Addr) from z) (by simp)
 refine⟨⟨e0.mod,S.kind,rfl,rfl,Yg _,fun y z c h1 h2=>?_,fun y hy=>?_,fun y c _ h=>?_,fun _=>hd,Around.frames_deeper e0.frames,.inr ⟨rfl,rfl⟩,fun b z=>absurd z (noA b),e0.bs,e0.bsz,fun b _ _=>noA b,fun b z=>absurd z (noA b),e0.funs,e0.frf⟩,
  rfl,e0.bare,Un.kept hk,⟨_,x.toInCall.ns,fun i y v h1 h2 h3=>?_⟩,fun y c h=>⟨_,x.cell y c h⟩,e0.hok.fresh (Yg _),fun y c h=>?_,fun p hp=>absurd (show p∈([]:List (Addr×Obj)) from hp) (by simp),e0.hok.kept hk,?_⟩
 ·exact name_of_addr x.apart (PySem.mem_of_lookup h1) (PySem.mem_of_lookup h2)
 ·have hy:scope.names.lookup y=some .cell∨scope.names.lookup y=some .free:=hy
  rcases hy with hy | hy
  ·exact gh hy
  ·exact absurd rfl (S.nofree _ (PySem.mem_of_lookup hy))
 ·exact Nat.le_of_lt (x.above y c (PySem.mem_of_lookup h))
 ·have hi:i<vs.length:=by
   unfold b8 at h2
   by_cases hi:i<vs.length
   ·exact hi
   ·rw [Xp (by simpa using hi)] at h2
    rw [List.getElem?_replicate] at h2
    split at h2 <;> cases h2
  have ha:vs[i]? = some v:=by
   unfold b8 at h2
   rw [Xv (by simpa using hi),YB] at h2
   cases e:vs[i]? with
   | none=>rw [e] at h2; cases h2
   | some a=>rw [e] at h2; cases h2; rfl
  obtain⟨u,hu,rv⟩:=r.get ha
  have hp:ps[i]? = some y:=by
   rw [← S.pre,List.getElem?_take_of_lt (by omega)]; exact h1
  have ndP:ps.Nodup:=by rw [← S.pre]; exact S.nd.sublist (List.take_sublist _ _)
  refine⟨u,rv,?_⟩
  rcases S.par y (YD hp) with k | k
  ·exact .inl ⟨k,gM ndP hp hu k⟩
  ·obtain⟨c,e⟩:=gh (n:=s.heap.objs.size+1) k
   refine .inr ⟨.inl k,c,e,?_⟩
   have q:=x.cell y c e
   rw [gN ndP hp hu (by show scope.names.lookup y≠_; rw [k]; decide)] at q
   exact q
 ·exact e0.hok.fresh (Nat.le_of_lt (x.above y c (PySem.mem_of_lookup h)))
 ·unfold b8
  show _=N.length
  rw [Yw,Yh,Y3]
  omega
theorem xV{CX:CXT}{P:Program}{w:World}{K:XC}{mg:Str→Option Value}{base:Heap}{k:Nat}{f:Addr}{name qual:Str}{params:Arguments}{body:List Stmt}{scope:Scope}{dV kV doc pm cdv ct oc:Value}{an od:Option Addr}
  {osl:Array (Option Value)} {N ps:List Str} {sp:Sp} (lk:K.lookup f=some ⟨oc,od,.func (PySem.W.fnOf name qual params body scope dV kV doc pm an cdv ct),osl⟩) (hcd:PySem.W.codeIn K cdv qual=true) (S:aj N ps scope)
  (len:∀ vs H Q E,sp vs H Q E→vs.length=ps.length)
  (hbody:∀ (A:Around) (outer:List Env) (s:Shared) (H:Hp) (vs:List V) (Q:VK) (E:XK),aI k (A.deeper (envOfC qual scope s.heap.objs.size f cdv))→sp vs H Q E→
   ∃ t,PSs (jo CX P w K mg base N qual scope f cdv A outer s H E) body t∧t {nx:=fun _ H'=>Q .non H',rt:=Q} (b8 N vs) H) :
  cK P w K mg base CX (k+1) f (PySem.W.fnOf name qual params body scope dV kV doc pm an cdv ct) ps sp:=by
 refine⟨len,fun A outer s H args us vs Q E hr e0 hb r hsp=>?_⟩
 have hl:=len _ _ _ _ hsp
 have KX:K.In s.heap:=e0.mod.kin.keeps fun b o e=>(e0.bs b o e).1
 have lim:s.heap.NoLimit:=e0.mod.nolimit.keeps fun b o e=>(e0.bs b o e).1
 have hkind:∀ y∈ps.zip us,scope.names.lookup y.1=some .local∨(scope.names.lookup y.1=some .cell∧((cellsFrom (s.heap.objs.size+1) scope.names []).lookup y.1).isSome=true):=fun ⟨n,v⟩ hy=>by
  rcases S.par n (List.of_mem_zip hy).1 with q | q
  ·exact .inl q
  ·exact .inr ⟨q,PySem.W.cellsFrom_some _ _ _ (.inl q)⟩
 refine codeAny_call_function hr.depth (KX _ _ lk) rfl S.co S.gen rfl (PySem.W.codeRec_of KX hcd) (hb _ _ _ _ ?_)
 refine wpAny_newFunctionEnv_cells S.kind hkind fun env he s1 x=>?_
 subst he
 refine⟨lim.keeps x.toInCall.keep,codeAny_func ?_⟩
 obtain⟨t,ht,hq⟩:=hbody A outer s H vs Q E (hr.deeper _) hsp
 have I:Inv (jo CX P w K mg base N qual scope f cdv A outer s H E) [] (b8 N vs) H s1:=qS S hr.hd e0 hl r x
 refine Ym (ht [] s1 (b8 N vs) H _ I hq) (fun fl s' hs=>?_) fun e s' hs=>hs
 have fin:∀ {σ':St} {H':Hp} {v:V} {u:Value},Inv (jo CX P w K mg base N qual scope f cdv A outer s H E) [] σ' H' s'→aq v u→Q v H'→CE outer P w H s Q u s':=
  fun {σ' H' v u} J rv q=>⟨v,H',J.os,J.bare,J.base,J.hok,rv,q⟩
 cases fl with
 | ret u=>
  obtain⟨v,σ',H',J,rv,q⟩:=hs
  exact fin J rv q
 | next=>
  obtain⟨σ',H',J,q⟩:=hs
  exact fin (v:=V.non) (u:=Value.none) J rfl q
 | brk=>
  obtain⟨_,_,_,q⟩:=hs
  exact False.elim q
 | cont=>
  obtain⟨_,_,_,q⟩:=hs
  exact False.elim q
section
variable{X:Cx}{x:Str}{p pos:Pos}{e:Expr}{es:List Expr}{t:TA}{id T:String}{r:List V→Hp→VK→Prop}
def tCB(r:List V→Hp→VK→Prop)(t:TA):TE:=fun σ H Q=>t σ H fun vs H1=>r vs H1 Q
theorem bo(hc:bU X (.builtin id) r)(hg:Gl X x)(hm:X.mg x=none)(hv:bootBuiltins x=some (.builtin id))(ha:PA X (e::es) t)(hn:x≠"__name__":=by decide)(hdb:(x==("__debug__":Str))=false:=by decide)
  (he:starEach (e::es) X.env=(false,eval e X.env)::starEach es X.env:=by rfl) (hpl:(backTo pos (starEach es X.env)).any (·.1)=false:=by rfl):PE X (.Call (.Name x p) (e::es) [] pos) (tCB r t):=by
 intro pins s σ H Q I h
 refine wpAny_Call_Name_kw (gH I hg hm hv ?_ hn hdb)
 exact PyProof.Rows.callWith_builtin1 (thn (ha pos pins s σ H _ I h) fun us s1 ⟨vs,H1,I1,r1,q1⟩=>hc pins s1 σ H1 vs us Q I1 r1 q1) he hpl
theorem qC(hc:bU X (.type T) r)(hg:Gl X x)(hm:X.mg x=none)(hv:bootBuiltins x=some (.type T))(ha:PA X (e::es) t)(hn:x≠"__name__":=by decide)(hdb:(x==("__debug__":Str))=false:=by decide)
  (he:starEach (e::es) X.env=(false,eval e X.env)::starEach es X.env:=by rfl) (hpl:(backTo pos (starEach es X.env)).any (·.1)=false:=by rfl):PE X (.Call (.Name x p) (e::es) [] pos) (tCB r t):=by
 intro pins s σ H Q I h
 refine wpAny_Call_Name_kw (gH I hg hm hv ?_ hn hdb)
 exact PyProof.Rows.callWith_type1 (thn (ha pos pins s σ H _ I h) fun us s1 ⟨vs,H1,I1,r1,q1⟩=>hc pins s1 σ H1 vs us Q I1 r1 q1) he hpl
end
end L2
namespace HT
open PySem PyProof.Rows
section
open PySem.SeqAt
open PySem.AutoSeq1 (wpAny_loadPart')
open PySem.MeetsSeq PySem.MeetsSeq2 PySem.MeetsSeq3
end
section
variable{prog:Program}{w:World}{A:Around}{E:Value→Shared→Prop}{s:Shared}
theorem cat_tup{t b:Addr}{vs ws:List Value}{Q:Value→Shared→Prop}(ht:IsTup s.heap t vs.toArray)(hb:IsTup s.heap b ws.toArray)(hv:vs≠[])
  (h1:ws=[]→Q (.ref t) s) (h2:ws≠[]→Q (.ref s.heap.objs.size) {s with heap:=s.heap.push {cls:=.type "tuple",data:=.seq (vs++ws).toArray}})
  (hsz:vs.length+ws.length≤sizeLine):wpAny (model prog w) A (binaryOp .Add (.ref t) (.ref b)) Q E s:=by
 obtain⟨⟨cls,dd,data,sl⟩,ho,hc,n,hd⟩:=id ht
 obtain⟨⟨cls2,dd2,data2,sl2⟩,ho2,hc2,n2,hd2⟩:=id hb
 simp only at hc hd hc2 hd2
 subst hc hd hc2 hd2
 have e:vs.toArray++ws.toArray=(vs++ws).toArray:=by simp
 by_cases hw:ws=[]
 ·exact concat_meets ⟨_,ho,rfl⟩ ⟨_,ho2,rfl⟩ noFill_tuple_add seq_tuple_add PySem.F.slot_tuple_add PySem.F.entry_tuple_add (PySem.F.args_tuple_add_2 _ _)
   (tuple_addW1 t b vs.toArray ws.toArray n n2 dd dd2 sl sl2 (by simpa using hv) (by simp [hw])) ⟨ho,ho2,h1 hw⟩
 ·refine concat_meets ⟨_,ho,rfl⟩ ⟨_,ho2,rfl⟩ noFill_tuple_add seq_tuple_add PySem.F.slot_tuple_add PySem.F.entry_tuple_add (PySem.F.args_tuple_add_2 _ _)
   (tuple_addW2 t b vs.toArray ws.toArray n n2 dd dd2 sl sl2 (by simpa using hv) (by simpa using hw) (by rw [Yq,Yq]; exact hsz)) ⟨ho,ho2,?_⟩
  rw [e]
  exact h2 hw
def sIx(n d:Nat):Option Int→Nat
 | none=>d
 | some v=>if v<0 then (v+(n:Int)).toNat else min v.toNat n
theorem yq(n d:Nat)(hd:d≤n)(o:Option Int):sIx n d o≤n:=by
 cases o with
 | none=>exact hd
 | some v=>
  show (if v<0 then (v+(n:Int)).toNat else min v.toNat n)≤n
  by_cases hv:v<0
  ·rw [if_pos hv]; omega
  ·rw [if_neg hv]; exact Nat.min_le_right _ _
theorem pR(v:Int)(n d:Nat):(if v<0 then max (v+(n:Int)) 0 else min v (n:Int))=((sIx n d (some v):Nat):Int):=by
 show (if v<0 then max (v+(n:Int)) 0 else min v (n:Int))=(((if v<0 then (v+(n:Int)).toNat else min v.toNat n):Nat):Int)
 by_cases hv:v<0
 ·simp only [if_pos hv]; omega
 ·simp only [if_neg hv]; omega
theorem oJ(lo hi:Option Int)(n:Nat):Builtin.Slice.sliceAdjust lo hi 1 (n:Int)=(((sIx n 0 lo:Nat):Int),((sIx n n hi:Nat):Int)):=by
 have h1:¬ ((1:Int)<0):=by omega
 unfold Builtin.Slice.sliceAdjust
 simp only [h1,if_false]
 refine Prod.ext ?_ ?_
 ·cases lo with
  | none=>rfl
  | some v=>exact pR v n 0
 ·cases hi with
  | none=>rfl
  | some v=>exact pR v n n
theorem nQ(i j:Nat):Builtin.Slice.slicePlaces (i:Int) (j:Int) 1=j-i:=by
 unfold Builtin.Slice.slicePlaces
 have h1:(1:Int) > 0:=by omega
 simp only [h1,if_true,Int.ediv_one]
 split <;> omega
theorem iH{v:Value}{o:Option Int}{Q:Option Int→Shared→Prop}(p:IsPart v o)(h:Q o s):wpAny (model prog w) A (Builtin.Slice.slicePartIndex v) Q E s:=by
 cases p with
 | none=>exact slicePart_none h
 | int i t=>exact slicePart_int h
theorem dC{sl:Addr}{vl vu:Value}{lo hi:Option Int}{n:Nat}{Q:Int×Int×Nat→Shared→Prop}(hs:s.heap.IsSliceOf sl vl vu .none)(pl:IsPart vl lo)(pu:IsPart vu hi)
  (h:Q (((sIx n 0 lo:Nat):Int),1,sIx n n hi-sIx n 0 lo) s):wpAny (model prog w) A (Builtin.Slice.sliceApplied (.ref sl) (pure (n:Int))) Q E s:=by
 obtain⟨os,hos,hcs,hds⟩:=id hs
 unfold Builtin.Slice.sliceApplied Builtin.Slice.sliceFields
 refine Yd (Yd (wpAny_field hos hds (x:=vl) rfl (Yd (wpAny_field hos hds (x:=vu) rfl (Yd (wpAny_field hos hds (x:=.none) rfl (Yf ?_)))))))
 refine Yd (slicePart_none ?_)
 show wpAny _ _ (if ((1:Int)==0)=true then _ else _) _ _ s
 rw [if_neg (by decide)]
 refine Yd (iH pl (Yd (iH pu (Yd (Yf ?_)))))
 show wpAny _ _ (match Builtin.Slice.sliceAdjust lo hi 1 (n:Int) with | (lo,hi)=>pure (lo,(1:Int),Builtin.Slice.slicePlaces lo hi 1)) _ _ s
 rw [oJ lo hi n]
 show wpAny _ _ (pure (((sIx n 0 lo:Nat):Int),(1:Int),Builtin.Slice.slicePlaces ((sIx n 0 lo:Nat):Int) ((sIx n n hi:Nat):Int) 1)) _ _ s
 rw [nQ]
 exact Yf h
theorem tq(xs:Array Value)(i k:Nat):((List.range k).filterMap fun (m:Nat)=>xs[((i:Int)+(m:Int)*1).toNat]?).toArray=((xs.toList.drop i).take k).toArray:=by
 have e:(fun (m:Nat)=>xs[((i:Int)+(m:Int)*1).toNat]?)=fun m=>xs[i+m]?:=by
  funext m
  have : ((i:Int)+(m:Int)*1).toNat=i+m:=by omega
  rw [this]
 rw [e]
 have:=pick_run xs i k
 rw [List.filterMap_map] at this
 have e2:((fun x=>xs[x]?)∘fun x=>i+x)=fun m=>xs[i+m]?:=rfl
 rw [e2] at this
 rw [this]
theorem getItem_tuple_cut{t sl:Addr}{items:Array Value}{vl vu:Value}{lo hi:Option Int}{Q:Value→Shared→Prop}(ht:IsTup s.heap t items)(hs:s.heap.IsSliceOf sl vl vu .none)(pl:IsPart vl lo)(pu:IsPart vu hi)
  (hw:¬ (sIx items.size 0 lo=0∧sIx items.size items.size hi=items.size))
  (h:Q (.ref s.heap.objs.size) {s with heap:=s.heap.push {cls:=.type "tuple",data:=.seq ((items.toList.drop (sIx items.size 0 lo)).take (sIx items.size items.size hi-sIx items.size 0 lo)).toArray}})
  (hsz:items.size≤sizeLine):wpAny (model prog w) A (getItem (.ref t) (.ref sl)) Q E s:=by
 have htake:sizeOk (.seq ((items.toList.drop (sIx items.size 0 lo)).take (sIx items.size items.size hi-sIx items.size 0 lo)).toArray):=by
  show ((items.toList.drop (sIx items.size 0 lo)).take (sIx items.size items.size hi-sIx items.size 0 lo)).toArray.size≤sizeLine
  rw [Yq,YV,YY,Xm]
  omega
 have hj:sIx items.size items.size hi≤items.size:=yq _ _ (Yg _) hi
 obtain⟨os,hos,hcs,hds⟩:=id hs
 have hTs:s.TypeIs (.ref sl) "slice":=⟨os,hos,hcs⟩
 unfold getItem
 try with_reducible refine wpAny_holding ?_
 first | refine Yd (Yf ?_) | skip
 refine Yd (wpAny_sequenceKey ht.typeIs (by decide) ?_)
 refine Yd (wpAny_callSpecial?_slot (name:=Str.ofString "__getitem__") ht.typeIs PyProof.Rows.slot_tuple_getitem
  (wpAny_call_entry PyProof.Rows.slot_tuple_getitem ht.typeIs entry_tuple_getitem ?_ (args_tuple_getitem _ _)))
 show wpAny _ _ (Builtin.Tuple.tupleItemsOf (.ref t)>>=_) _ _ s
 refine Yd (tupleItemsOf_ ht ?_)
 refine Yd (wpAny_typeOf hTs ?_)
 rw [if_pos (by decide)]
 refine Yd (dC hs pl pu ?_)
 have hno:¬ ((((sIx items.size 0 lo:Nat):Int)==0&&(1:Int)==1&&(sIx items.size items.size hi-sIx items.size 0 lo)==items.size)=true):=by
  intro q
  rw [YK,YK] at q
  have q1:((sIx items.size 0 lo:Nat):Int)=0:=eq_of_beq q.1.1
  have q2:sIx items.size items.size hi-sIx items.size 0 lo=items.size:=eq_of_beq q.2
  exact hw ⟨by omega,by omega⟩
 show wpAny _ _ (if (((sIx items.size 0 lo:Nat):Int)==0&&(1:Int)==1&&(sIx items.size items.size hi-sIx items.size 0 lo)==items.size)=true then _ else _) _ _ s
 rw [if_neg hno,tq]
 first
  | exact Yd (m:=Builtin.Tuple.tupleExact _) (wpAny_newObj_type (Yf ⟨_,rfl,Yf h⟩) htake)
  | exact Yd (m:=Builtin.Tuple.tupleExact _) (wpAny_newObj_type (Yd (Yf (Yf ⟨_,rfl,Yf h⟩))) htake)
  | exact Yd (Yd (m:=Builtin.Tuple.tupleExact _) (wpAny_newObj_type (Yf (Yf ⟨_,rfl,Yf h⟩)) htake))
  | exact Yd (Yd (m:=Builtin.Tuple.tupleExact _) (wpAny_newObj_type (Yf ⟨_,rfl,Yf h⟩) htake))
end
end HT
namespace L2
open PySem PySem.Spec PyProof.Rows
abbrev TO:=St→Hp→(Option Int→Hp→Prop)→Prop
def PO(X:Cx)(e:Option Expr)(t:TO):Prop:=
 ∀ (pins:List (Addr×Obj)) (s:Shared) (σ:St) (H:Hp) (Q:Option Int→Hp→Prop),Inv X pins σ H s→t σ H Q→
  wpAny (model X.prog X.w) X.A (evalPart e X.env) (fun u s'=>∃ o H',Inv X pins σ H' s'∧IsPart u o∧Q o H') X.xe s
def oY:TO:=fun _ H Q=>Q none H
inductive tPartI(Q:Option Int→Hp→Prop)(x:V)(H1:Hp):Prop | mk (i) (_:x=.int i) (_:Q (some i) H1)
def xK(t:TE):TO:=fun σ H Q=>t σ H (tPartI Q)
section
variable{X:Cx}{e:Expr}{te:TE}{lo hi:Option Expr}{tl th:TO}{pos p2:Pos}
theorem we:PO X none oY:=by
 intro pins s σ H Q I h
 rw [evalPart_none]
 exact Yf ⟨none,H,I,.none,h⟩
theorem wc(h:PE X e te):PO X (some e) (xK te):=by
 intro pins s σ H Q I hw
 rw [evalPart_some]
 refine thn (h pins s σ H _ I hw) fun u s1 ⟨x,H1,I1,r1,q1⟩=>?_
 obtain⟨i,rfl,q⟩:=q1
 obtain⟨t,rfl⟩:=r1
 exact⟨some i,H1,I1,.int i t,q⟩
def SlR(X:Cx)(r:V→Option Int→Option Int→Hp→VK→Prop):Prop:=
 ∀ (pins:List (Addr×Obj)) (s:Shared) (σ:St) (H:Hp) (x:V) (v vl vu:Value) (lo hi:Option Int) (sl:Addr) (Q:VK),Inv X pins σ H s→aq x v→s.heap.IsSliceOf sl vl vu .none→IsPart vl lo→IsPart vu hi→r x lo hi H Q→
  ∃ T id,typeLookup (.type T) "__getitem__"=pure (some (.builtin id))∧s.TypeIs v T∧wpAny (model X.prog X.w) X.A (getItem v (.ref sl)) (EP X pins σ Q) X.xe s
theorem SlR.or{r r':V→Option Int→Option Int→Hp→VK→Prop}(h:SlR X r)(h':SlR X r'):SlR X (fun x lo hi H Q=>r x lo hi H Q∨r' x lo hi H Q):=by
 intro pins s σ H x v vl vu lo hi sl Q I rx hs pl pu q
 rcases q with q | q
 ·exact h pins s σ H x v vl vu lo hi sl Q I rx hs pl pu q
 ·exact h' pins s σ H x v vl vu lo hi sl Q I rx hs pl pu q
def tSl(r:V→Option Int→Option Int→Hp→VK→Prop)(te:TE)(tl th:TO):TE:=fun σ H Q=>te σ H fun x H1=>tl σ H1 fun l H2=>th σ H2 fun u H3=>r x l u H3 Q
theorem iR{r:V→Option Int→Option Int→Hp→VK→Prop}(hr:SlR X r)(he:PE X e te)(hl:PO X lo tl)(hu:PO X hi th):PE X (.Subscript e (.Slice lo hi none p2) pos) (tSl r te tl th):=by
 intro pins s σ H Q I h
 refine Subscript_ (thn (he pins s σ H _ I h) fun v s1 ⟨x,H1,I1,r1,q1⟩=>?_)
 refine wpAny_Slice (thn (hl pins s1 σ H1 _ I1 q1) fun vl s2 ⟨l,H2,I2,pl,q2⟩=>thn (hu pins s2 σ H2 _ I2 q2) fun vu s3 ⟨u,H3,I3,pu,q3⟩=>?_)
 rw [evalPart_none]
 refine Yf ?_
 have I4:Inv X pins σ H3 {s3 with heap:=s3.heap.push {cls:=.type "slice",data:=.fields #[vl,vu,.none]}}:=I3.kept (t':=s3.toks) fun b ob q=>Ye _ q
 obtain⟨T,id,hT,ht,hg⟩:=hr pins {s3 with heap:=s3.heap.push {cls:=.type "slice",data:=.fields #[vl,vu,.none]}} σ H3 x v vl vu l u s3.heap.objs.size Q I4 r1 (Heap.IsSliceOf.new ..) pl pu q3
 show wpAny (model X.prog X.w) X.A (subscriptTail e (.Slice lo hi none p2) v (.ref s3.heap.objs.size)) (EP X pins σ Q) X.xe {s3 with heap:=s3.heap.push {cls:=.type "slice",data:=.fields #[vl,vu,.none]}}
 exact tail_any (ops:=[.ref s3.heap.objs.size,v]) ht hT hg (by with_unfolding_all rfl)
def eQ(xs:List V)(lo hi:Option Int):List V:=(xs.drop (HT.sIx xs.length 0 lo)).take (HT.sIx xs.length xs.length hi-HT.sIx xs.length 0 lo)
theorem eB(xs:List V)(lo hi:Option Int):(eQ xs lo hi).length≤xs.length:=by
 unfold eQ
 rw [YV,YY]
 omega
inductive rSlT(K:XC)(x:V)(lo hi:Option Int)(H:Hp)(Q:VK):Prop | mk (a xs) (_:x=.ref a) (_:SqT K H a xs) (_:¬ (HT.sIx xs.length 0 lo=0∧HT.sIx xs.length xs.length hi=xs.length)) (_:∀ p,H p=none→Q (.ref p) (upd H p (.tup (eQ xs lo hi))))
theorem sl_tup:SlR X (rSlT X.K):=by
 intro pins s σ H x v vl vu lo hi sl Q I rx hs pl pu h
 obtain⟨a,xs,rfl,hx,hw,q⟩:=h
 cases rx
 obtain⟨its,r,ht,hz⟩:=I.tuple hx
 have hlen:its.toArray.size=xs.length:=by rw [Yq]; exact r.length.symm
 refine⟨"tuple",_,PyProof.Rows.slot_tuple_getitem.lookup,ht.typeIs,?_⟩
 refine HT.getItem_tuple_cut ht hs pl pu (by rw [hlen]; exact hw) ?_ (by rw [hlen]; exact hz)
 rw [hlen]
 refine⟨.ref s.heap.objs.size,_,I.laid (t':=s.toks) (o:=.tup (eQ xs lo hi)) (fun b ob q=>Ye _ q) (Yg _) ?_,rfl,q _ (I.hok.fresh (Yg _))⟩
 exact⟨Yn (eB xs lo hi) hz,_,(r.drop (HT.sIx xs.length 0 lo)).take (HT.sIx xs.length xs.length hi-HT.sIx xs.length 0 lo),IsTup.new _ _⟩
inductive rCatT(K:XC)(x y:V)(H:Hp)(Q:VK):Prop | mk (a b xs ys) (_:x=.ref a) (_:y=.ref b) (_:SqT K H a xs) (_:SqT K H b ys) (_:xs≠[]) (_:xs.length+ys.length≤sizeLine) (_:(ys=[]→Q (.ref a) H)) (_:(ys≠[]→∀ p,H p=none→Q (.ref p) (upd H p (.tup (xs++ys)))))
theorem ap.nil_iff{xs:List V}{us:List Value}(r:ap xs us):us=[]↔xs=[]:=by
 cases r with
 | nil=>simp
 | cons _ _=>simp
theorem wF:OpR X (binaryOp .Add) (rCatT X.K):=by
 intro pins s σ H x y v u Q I rx ry h
 obtain⟨a,b,xs,ys,rfl,rfl,ha,hb,hx,hz,q1,q2⟩:=h
 cases rx
 cases ry
 obtain⟨its,r1,p1,_⟩:=I.tuple ha
 obtain⟨its2,r2,p2,_⟩:=I.tuple hb
 refine HT.cat_tup p1 p2 (fun z=>hx (r1.nil_iff.mp z)) (fun z=>⟨.ref a,H,I,rfl,q1 (r2.nil_iff.mp z)⟩) (fun z=>?_) (by rw [← r1.length,← r2.length]; exact hz)
 refine⟨.ref s.heap.objs.size,_,I.laid (t':=s.toks) (o:=.tup (xs++ys)) (fun b ob q=>Ye _ q) (Yg _) ?_,rfl,q2 (fun w=>z (r2.nil_iff.mpr w)) _ (I.hok.fresh (Yg _))⟩
 exact⟨by rw [Yw]; exact hz,_,r1.append r2,IsTup.new _ _⟩
end
def ixN(n:Nat)(i:Int):Option Nat:=if 0≤i then (if i<n then some i.toNat else none) else if -(n:Int)≤i then some (i+n).toNat else none
def atI{α:Type}(xs:List α)(i:Int):Option α:=(ixN xs.length i).bind fun j=>xs[j]?
theorem pH{n:Nat}{i:Int}{j:Nat}(h:ixN n i=some j):seqIndex? i n=some j∧j<n∧-(n:Int)≤i∧i<n:=by
 unfold ixN at h
 by_cases h0:0≤i
 ·rw [if_pos h0] at h
  by_cases h1:i<n
  ·rw [if_pos h1] at h
   have e:i.toNat=j:=Option.some.inj h
   exact⟨by rw [seqIndex_of h0 h1,e],by omega,by omega,h1⟩
  ·rw [if_neg h1] at h; cases h
 ·rw [if_neg h0] at h
  by_cases h1:-(n:Int)≤i
  ·rw [if_pos h1] at h
   have e:(i+n).toNat=j:=Option.some.inj h
   exact⟨by rw [seqIndex_neg (by omega) h1,e],by omega,h1,by omega⟩
  ·rw [if_neg h1] at h; cases h
theorem ii{α:Type}{xs:List α}{i:Int}{v:α}(h:atI xs i=some v):∃ j,seqIndex? i xs.length=some j∧xs[j]? = some v∧j<xs.length∧-(xs.length:Int)≤i∧i<xs.length:=by
 unfold atI at h
 cases e:ixN xs.length i with
 | none=>rw [e] at h; cases h
 | some j=>
  rw [e] at h
  obtain⟨h1,h2,h3,h4⟩:=pH e
  exact⟨j,h1,h,h2,h3,h4⟩
theorem gj{α:Type}{xs:List α}{j:Nat}{v:α}(h:xs[j]? = some v):atI xs (j:Int)=some v:=by
 have hj:j<xs.length:=(Yv.mp h).1
 have e:ixN xs.length (j:Int)=some j:=by
  unfold ixN
  rw [if_pos (by omega),if_pos (by omega)]; simp
 unfold atI; rw [e]; exact h
def xD(b:Expr):Prop:=∀ o i,subscripted b false o i=operate [o,i] (getItem o i)
def IxR(X:Cx)(r:R2):Prop:=
 ∀ (value slice:Expr) (pins:List (Addr×Obj)) (s:Shared) (σ:St) (H:Hp) (x y:V) (v u:Value) (Q:VK),Inv X pins σ H s→aq x v→aq y u→r x y H Q→
  subscripted slice false v u=operate [v,u] (getItem v u)→wpAny (model X.prog X.w) X.A (subscriptTail value slice v u) (EP X pins σ Q) X.xe s
def MtR(X:Cx)(id:String)(r:V→List V→Hp→VK→Prop):Prop:=
 ∀ (pins:List (Addr×Obj)) (s:Shared) (σ:St) (H:Hp) (x:V) (xs:List V) (v:Value) (us:List Value) (Q:VK),Inv X pins σ H s→aq x v→ap xs us→r x xs H Q→
  wpAny (model X.prog X.w) X.A (call (.builtin id) (v::us)) (EP X pins σ Q) X.xe s
section
variable{X:Cx}{a b:Expr}{ta tb:TE}{pos:Pos}
theorem IxR.or{r r':R2}(h:IxR X r)(h':IxR X r'):IxR X (fun x y H Q=>r x y H Q∨r' x y H Q):=by
 intro value slice pins s σ H x y v u Q I rx ry q hs
 rcases q with q | q
 ·exact h value slice pins s σ H x y v u Q I rx ry q hs
 ·exact h' value slice pins s σ H x y v u Q I rx ry q hs
theorem fV{r:R2}(hr:IxR X r)(ha:PE X a ta)(hb:PE X b tb)(hs:xD b):PE X (.Subscript a b pos) (tOp r ta tb):=by
 intro pins s σ H Q I h
 exact Subscript_ (zz ha hb I h fun v u s2 x y H2 I2 rx ry q=>hr a b pins s2 σ H2 x y v u Q I2 rx ry q (hs _ _))
inductive rIxL(K:XC)(x y:V)(H:Hp)(Q:VK):Prop | mk (p xs i v) (_:x=.ref p) (_:y=.int i) (_:SqL K H p xs) (_:atI xs i=some v) (_:Q v H)
inductive rIxT(K:XC)(x y:V)(H:Hp)(Q:VK):Prop | mk (p xs i v) (_:x=.ref p) (_:y=.int i) (_:SqT K H p xs) (_:atI xs i=some v) (_:Q v H)
inductive rIxS(x y:V)(H:Hp)(Q:VK):Prop | mk (z i c) (_:x=.str z) (_:y=.int i) (_:z.length≤sizeLine) (_:atI z.cps.toList i=some c) (_:Q (.str ⟨#[c]⟩) H)
theorem ix_list:IxR X (rIxL X.K):=by
 intro value slice pins s σ H x y v u Q I rx ry h hs
 obtain⟨p,xs,i,z,rfl,rfl,hq,he,q⟩:=h
 cases rx
 obtain⟨t,rfl⟩:=ry
 obtain⟨its,r,pl,hz⟩:=I.list hq
 obtain⟨j,h1,h2,h3,h4,h5⟩:=ii he
 obtain⟨w,ew,rw'⟩:=r.get h2
 have hl:=r.length
 have hn:=er
 have fin:EP X pins σ Q w s:=⟨z,H,I,rw',q⟩
 by_cases h0:0≤i
 ·have hj:i.toNat=j:=by
   rw [seqIndex_of h0 h5] at h1
   exact Option.some.inj h1
  exact item_listR pl.isList h0 (by omega) (by rw [hj]; simpa using ew) fin hs
 ·have hj:(i+(its.toArray.size:Int)).toNat=j:=by
   rw [seqIndex_neg (by omega) h4] at h1
   rw [Yq,← hl]
   exact Option.some.inj h1
  exact subscriptTail_builtinR (x:=w) pl.isList.typeIs slot_list_getitem.lookup
   (wpAny_getItem_list_neg (Q:=fun r s'=>r=w∧EP X pins σ Q r s') pl.isList (by omega) (by rw [Yq] <;> omega) (by omega) (by rw [hj]; simpa using ew) ⟨rfl,fin⟩) hs
theorem ix_tup:IxR X (rIxT X.K):=by
 intro value slice pins s σ H x y v u Q I rx ry h hs
 obtain⟨p,xs,i,z,rfl,rfl,hq,he,q⟩:=h
 cases rx
 obtain⟨t,rfl⟩:=ry
 obtain⟨its,r,pl,hz⟩:=I.tuple hq
 obtain⟨j,h1,h2,h3,h4,h5⟩:=ii he
 obtain⟨w,ew,rw'⟩:=r.get h2
 have hl:=r.length
 have hn:=er
 have fin:EP X pins σ Q w s:=⟨z,H,I,rw',q⟩
 exact subscriptTail_builtinR (x:=w) pl.typeIs slot_tuple_getitem.lookup
  (getItem_tuple (j:=j) (Q:=fun r s'=>r=w∧EP X pins σ Q r s') pl (by omega) (by omega) (by rw [Yq,← hl]; exact h1) (by simpa using ew) ⟨rfl,fin⟩) hs
theorem uM:IxR X rIxS:=by
 intro value slice pins s σ H x y v u Q I rx ry h hs
 obtain⟨z,i,c,rfl,rfl,hz,he,q⟩:=h
 obtain⟨t,rfl⟩:=rx
 obtain⟨t',rfl⟩:=ry
 obtain⟨j,h1,h2,h3,h4,h5⟩:=ii he
 have hl:z.cps.toList.length=z.length:=by simp [Str.length]
 rw [hl] at h1 h4 h5
 have hn:=er
 exact tail_any (typeIs_str s z t) slot_str_getitem.lookup (getItem_str (c:=c) (by
  have e1:decide (i < -(2 ^ 63:Int))=false:=decide_eq_false (by omega)
  have e2:decide (i≥2 ^ 63)=false:=decide_eq_false (by omega)
  rw [e1,e2,Bool.or_false]) (by rw [h1]; simpa using h2) ⟨.str ⟨#[c]⟩,H,I.tok _,⟨_,rfl⟩,q⟩) hs
def rIx(K:XC):R2:=fun x y H Q=>rIxL K x y H Q∨rIxT K x y H Q∨rIxS x y H Q
theorem ze:IxR X (rIx X.K):=ix_list.or (ix_tup.or uM)
theorem n6(its:List Value)(n j:Nat)(u:Value):Obj.mapSeq (·.setIfInBounds j u) {cls:=.type "list",data:=.seq its.toArray n}={cls:=.type "list",data:=.seq (its.set j u).toArray n}:=by
 simp [Obj.mapSeq]
theorem Inv.lst{pins:List (Addr×Obj)}{σ:St}{H:Hp}{s:Shared}{p:Addr}{xs:List V}(I:Inv X pins σ H s)(h:H p=some (.lst xs)):
  ∃ (its:List Value) (n:Nat),ap xs its∧s.heap.get? p=some {cls:=.type "list",data:=.seq its.toArray n}∧xs.length≤sizeLine:=by
 obtain⟨z,its,n,r,e⟩:=I.hok p _ h
 exact⟨its,n,r,e,z⟩
theorem Inv.lstUpd{pins:List (Addr×Obj)}{σ:St}{H:Hp}{s:Shared}{p:Addr}{xs ys:List V}{its its':List Value}{n n':Nat}{f:Obj→Obj}(I:Inv X pins σ H s)(h:H p=some (.lst xs))
  (ho:s.heap.get? p=some {cls:=.type "list",data:=.seq its.toArray n}) (hf:f {cls:=.type "list",data:=.seq its.toArray n}={cls:=.type "list",data:=.seq its'.toArray n'}) (r:ap ys its') (hz:ys.length≤sizeLine) (t:Nat) :
  Inv X pins σ (upd H p (.lst ys)) {s with heap:=s.heap.update p f,toks:=t}:=by
 have e:(s.heap.update p f).get? p=some {cls:=.type "list",data:=.seq its'.toArray n'}:=by
  rw [Xq f ho (by rw [hf] <;> rfl),hf]
 refine I.write (x:=p) (e:=p) (by rw [h]; trivial) (.inl rfl) (fun b u hb q=>(Xn _ _ (Ne.symm hb)).trans q) ⟨_,e⟩ ?_
 exact⟨hz,its',n',r,e⟩
inductive rSetL(o i v:V)(H:Hp)(Q:Hp→Prop):Prop | mk (p xs k j) (_:o=.ref p) (_:i=.int k) (_:H p=some (.lst xs)) (_:ixN xs.length k=some j) (_:Q (upd H p (.lst (xs.set j v))))
theorem lE:zC X rSetL:=by
 intro pins s σ H o i v ov iv u Q I ro ri rv h
 obtain⟨p,xs,k,j,rfl,rfl,hp,hj,q⟩:=h
 cases ro
 obtain⟨t,rfl⟩:=ri
 obtain⟨its,n,r,ho,hz⟩:=I.lst hp
 obtain⟨h1,h2,h3,h4⟩:=pH hj
 have hl:=r.length
 have hn:=er
 have I':Inv X pins σ (upd H p (.lst (xs.set j v))) {s with heap:=s.heap.update p (Obj.mapSeq (·.setIfInBounds j u))}:=
  I.lstUpd hp ho (n6 its n j u) (r.set rv j) (by rw [List.length_set]; exact hz) s.toks
 by_cases h0:0≤k
 ·have hk:k.toNat=j:=by
   rw [seqIndex_of h0 h4] at h1
   exact Option.some.inj h1
  exact PySem.W.ki_setAt ho h0 (by omega) (by rw [Yq,← hl]; exact h4) (by rw [hk]; exact⟨_,I',q⟩)
 ·have hk:(k+(its.toArray.size:Int)).toNat=j:=by
   rw [seqIndex_neg (by omega) h3] at h1
   rw [Yq,← hl]
   exact Option.some.inj h1
  exact PySem.W.ki_setBack ho (by omega) (by rw [Yq,← hl]; exact h3) (by omega) (by rw [hk]; exact⟨_,I',q⟩)
theorem kr(lo hi:Option Int)(n:Nat):(sliceBounds lo hi none n).1=((HT.sIx n 0 lo:Nat):Int)∧(sliceBounds lo hi none n).2.1=((HT.sIx n n hi:Nat):Int)∧(sliceBounds lo hi none n).2.2=1:=by
 refine⟨?_,?_,rfl⟩
 ·cases lo with
  | none=>simp [sliceBounds,HT.sIx]
  | some i=>
   simp only [sliceBounds,HT.sIx,Option.getD_none,show (1:Int) > 0 by decide,if_true]
   by_cases h:i<0
   ·simp only [h,if_true] <;> omega
   ·simp only [h,if_false] <;> omega
 ·cases hi with
  | none=>simp [sliceBounds,HT.sIx]
  | some i=>
   simp only [sliceBounds,HT.sIx,Option.getD_none,show (1:Int) > 0 by decide,if_true]
   by_cases h:i<0
   ·simp only [h,if_true] <;> omega
   ·simp only [h,if_false] <;> omega
theorem jm(its:List Value)(lo hi:Option Int):slicePick its.toArray lo hi none=((its.drop (HT.sIx its.length 0 lo)).take (HT.sIx its.length its.length hi-HT.sIx its.length 0 lo)).toArray:=by
 obtain⟨h1,h2,h3⟩:=kr lo hi its.toArray.size
 unfold slicePick
 rw [h1,h2,h3]
 simp only [sliceRange_one,pick_run,Yq] <;> rfl
inductive rSlL(K:XC)(x:V)(lo hi:Option Int)(H:Hp)(Q:VK):Prop | mk (a xs) (_:x=.ref a) (_:SqL K H a xs) (_:∀ p,H p=none→Q (.ref p) (upd H p (.lst (eQ xs lo hi))))
theorem sl_list:SlR X (rSlL X.K):=by
 intro pins s σ H x v vl vu lo hi sl Q I rx hs pl pu h
 obtain⟨a,xs,rfl,hx,q⟩:=h
 cases rx
 obtain⟨its,r,ht,hz⟩:=I.list hx
 have hlen:=r.length
 refine⟨"list",_,slot_list_getitem.lookup,ht.isList.typeIs,?_⟩
 refine wpAny_getItem_list_slice ht.isList hs pl pu .none (by simp) ?_ (by rw [Yq] <;> omega)
 rw [jm,← hlen]
 refine⟨.ref s.heap.objs.size,_,I.laid (t':=s.toks) (o:=.lst (eQ xs lo hi)) (fun b ob q=>Ye _ q) (Yg _) ?_,rfl,q _ (I.hok.fresh (Yg _))⟩
 exact⟨Yn (eB xs lo hi) hz,_,0,(r.drop (HT.sIx xs.length 0 lo)).take (HT.sIx xs.length xs.length hi-HT.sIx xs.length 0 lo),Yo _ rfl⟩
def dZ:V→Bool
 | .non=>true
 | .bl _=>true
 | .int _=>true
 | .str _=>true
 | _=>false
def eqV:V→V→Bool
 | .non,.non=>true
 | .bl a,.bl b=>a==b
 | .bl a,.int b=>(if a then 1 else 0)==b
 | .int a,.bl b=>a==(if b then 1 else 0)
 | .int a,.int b=>a==b
 | .str a,.str b=>a==b
 | _,_=>false
theorem vh{A:Around}{s:Shared}{y x:V}{u v:Value}(ry:aq y u)(rx:aq x v)(fy:dZ y=true)(fx:dZ x=true):SeqAt.EqAt A s u v (eqV y x):=by
 cases y with
 | non=>
  cases ry
  cases x with
  | non=>cases rx; exact SeqAt.EqAt.same _
  | bl b=>cases rx; exact SeqAt.EqAt.none_bool b
  | int b=>obtain⟨t,rfl⟩:=rx; exact SeqAt.EqAt.none_int b t
  | str b=>obtain⟨t,rfl⟩:=rx; exact SeqAt.EqAt.none_str b t
  | _=>exact absurd (show false=true from fx) Yt
 | bl a=>
  cases ry
  cases x with
  | non=>cases rx; exact SeqAt.EqAt.bool_none a
  | bl b=>cases rx; exact SeqAt.EqAt.bool_bool a b
  | int b=>obtain⟨t,rfl⟩:=rx; exact SeqAt.EqAt.bool_int a b t
  | str b=>obtain⟨t,rfl⟩:=rx; exact SeqAt.EqAt.bool_str a b t
  | _=>exact absurd (show false=true from fx) Yt
 | int a=>
  obtain⟨t',rfl⟩:=ry
  cases x with
  | non=>cases rx; exact SeqAt.EqAt.int_none a t'
  | bl b=>cases rx; exact SeqAt.EqAt.int_bool a t' b
  | int b=>obtain⟨t,rfl⟩:=rx; exact SeqAt.EqAt.int_int a t' b t
  | str b=>obtain⟨t,rfl⟩:=rx; exact SeqAt.EqAt.int_str a t' b t
  | _=>exact absurd (show false=true from fx) Yt
 | str a=>
  obtain⟨t',rfl⟩:=ry
  cases x with
  | non=>cases rx; exact SeqAt.EqAt.str_none a t'
  | bl b=>cases rx; exact SeqAt.EqAt.str_bool a t' b
  | int b=>obtain⟨t,rfl⟩:=rx; exact SeqAt.EqAt.str_int a t' b t
  | str b=>obtain⟨t,rfl⟩:=rx; exact SeqAt.EqAt.str_str a t' b t
  | _=>exact absurd (show false=true from fx) Yt
 | _=>exact absurd (show false=true from fy) Yt
def eqU(x:V)(u:Value):Bool:=match u with
 | .none=>eqV .non x
 | .bool b=>eqV (.bl b) x
 | .int i _=>eqV (.int i) x
 | .str z _=>eqV (.str z) x
 | _=>false
theorem vg{x y:V}{u:Value}(r:aq y u)(f:dZ y=true):eqU x u=eqV y x:=by
 cases y with
 | non=>cases r; rfl
 | bl b=>cases r; rfl
 | int i=>obtain⟨t,rfl⟩:=r; rfl
 | str z=>obtain⟨t,rfl⟩:=r; rfl
 | _=>exact absurd (show false=true from f) Yt
theorem gm{x:V}:∀ {xs:List V} {us:List Value},ap xs us→xs.all dZ=true→us.any (eqU x)=xs.any fun y=>eqV y x
 | _,_,.nil,_=>rfl
 | y::xs,u::us,.cons r t,f=>by
  rw [List.all_cons,YK] at f
  rw [Y9,Y9,vg r f.1,gm t f.2]
theorem em{A:Around}{s:Shared}{x:V}{v:Value}(rx:aq x v)(fx:dZ x=true):∀ {xs:List V} {us:List Value},ap xs us→xs.all dZ=true→∀ u∈us,SeqAt.EqAt A s u v (eqU x u)
 | _,_,.nil,_=>fun u hu=>by cases hu
 | y::xs,u::us,.cons r t,f=>fun u' hu=>by
  rw [List.all_cons,YK] at f
  rcases Yr.mp hu with rfl | hu
  ·rw [vg r f.1]; exact vh r rx f.1 fx
  ·exact em rx fx t f.2 u' hu
def inV(x:V)(xs:List V):Bool:=xs.any fun y=>eqV y x
inductive rIn(K:XC)(neg:Bool)(x y:V)(H:Hp)(Q:VK):Prop | mk (p xs) (_:y=.ref p) (_:(SqL K H p xs∨SqT K H p xs)) (_:dZ x=true) (_:xs.all dZ=true) (_:Q (.bl (if neg then !inV x xs else inV x xs)) H)
theorem qE:OpR X (compareOp .In) (rIn X.K false):=by
 intro pins s σ H x y v u Q I rx ry h
 obtain⟨p,xs,rfl,hq,fx,fs,q⟩:=h
 cases ry
 rcases hq with hq | hq
 ·obtain⟨its,r,pl,hz⟩:=I.list hq
  refine SeqAt.in_listAt (eqU x) pl.isList (fun w hw=>em rx fx r fs w (by simpa using hw)) ⟨.bl _,H,I,rfl,?_⟩
  rw [show its.toArray.any (eqU x)=its.any (eqU x) by simp,gm r fs]
  exact q
 ·obtain⟨its,r,pl,hz⟩:=I.tuple hq
  refine SeqAt.in_tupleAt (eqU x) pl (fun w hw=>em rx fx r fs w (by simpa using hw)) ⟨.bl _,H,I,rfl,?_⟩
  rw [show its.toArray.any (eqU x)=its.any (eqU x) by simp,gm r fs]
  exact q
theorem kJ:OpR X (compareOp .NotIn) (rIn X.K true):=by
 intro pins s σ H x y v u Q I rx ry h
 obtain⟨p,xs,rfl,hq,fx,fs,q⟩:=h
 cases ry
 rcases hq with hq | hq
 ·obtain⟨its,r,pl,hz⟩:=I.list hq
  refine SeqAt.notIn_listAt (eqU x) pl.isList (fun w hw=>em rx fx r fs w (by simpa using hw)) ⟨.bl _,H,I,rfl,?_⟩
  rw [show its.toArray.any (eqU x)=its.any (eqU x) by simp,gm r fs]
  exact q
 ·obtain⟨its,r,pl,hz⟩:=I.tuple hq
  refine SeqAt.notIn_tupleAt (eqU x) pl (fun w hw=>em rx fx r fs w (by simpa using hw)) ⟨.bl _,H,I,rfl,?_⟩
  rw [show its.toArray.any (eqU x)=its.any (eqU x) by simp,gm r fs]
  exact q
inductive rCall_len_seqI(K:XC)(xs:List V)(H:Hp)(Q:VK):Prop | mk (p ys) (_:xs=[.ref p]) (_:(SqL K H p ys∨SqT K H p ys)) (_:Q (.int ys.length) H)
theorem dU:bU X (.builtin "len") (rCall_len_seqI X.K):=by
 intro pins s σ H xs us Q I r h
 obtain⟨p,ys,rfl,hq,q⟩:=h
 obtain⟨u,rfl,rx⟩:=cM r
 cases rx
 have hn:=er
 rcases hq with hq | hq
 ·obtain⟨its,r',pl,hz⟩:=I.list hq
  have hlen:=r'.length
  exact Calls.call_len_list pl.isList (by simp only [Yq] <;> omega) ⟨.int ys.length,H,I.tok _,⟨s.toks+1,by rw [Yq,hlen]⟩,q⟩
 ·obtain⟨its,r',pl,hz⟩:=I.tuple hq
  have hlen:=r'.length
  exact len_tuple pl (by simp only [Yq] <;> omega) ⟨.int ys.length,H,I.tok _,⟨s.toks+1,by rw [Yq,hlen]⟩,q⟩
inductive rCall_len_strI(xs:List V)(H:Hp)(Q:VK):Prop | mk (z) (_:xs=[.str z]) (_:z.length≤sizeLine) (_:Q (.int z.length) H)
theorem kY:bU X (.builtin "len") rCall_len_strI:=by
 intro pins s σ H xs us Q I r h
 obtain⟨z,rfl,hz,q⟩:=h
 obtain⟨u,rfl,t,rfl⟩:=cM r
 have hn:=er
 exact len_str (by omega) ⟨.int z.length,H,I.tok _,⟨_,rfl⟩,q⟩
inductive rCall_list_ofI(K:XC)(xs:List V)(H:Hp)(Q:VK):Prop | mk (p ys) (_:xs=[.ref p]) (_:(SqL K H p ys∨SqT K H p ys)) (_:∀ l,H l=none→Q (.ref l) (upd H l (.lst ys)))
theorem kX:bU X (.type "list") (rCall_list_ofI X.K):=by
 intro pins s σ H xs us Q I r h
 obtain⟨p,ys,rfl,hq,q⟩:=h
 obtain⟨u,rfl,rx⟩:=cM r
 cases rx
 have fin:∀ (its:List Value),ap ys its→ys.length≤sizeLine→∀ (h':Heap) (c':Nat),(∀ b o',s.heap.get? b=some o'→h'.get? b=some o')→
   h'.get? s.heap.objs.size=some {cls:=.type "list",dict:=none,data:=.seq its.toArray c',slots:=#[]}→EP X pins σ Q (.ref s.heap.objs.size) {s with heap:=h'}:=fun its r' hz h' c' kp e=>
  ⟨.ref s.heap.objs.size,_,I.laid (t':=s.toks) kp (Yg _) (show aB X.prog X.w _ h' _ (.lst ys) from ⟨hz,its,c',r',e⟩),rfl,q _ (I.hok.fresh (Yg _))⟩
 rcases hq with hq | hq
 ·obtain⟨its,r',pl,hz⟩:=I.list hq
  have hlen:=r'.length
  obtain⟨o,ho,hc,n,hd⟩:=pl.isList
  exact call_list_seq p (.inl rfl) ho hc hd (fun h' c' kp e=>fin its r' hz h' c' kp e) (by simp only [Yq] <;> omega)
 ·obtain⟨its,r',pl,hz⟩:=I.tuple hq
  have hlen:=r'.length
  obtain⟨o,ho,hc,n,hd⟩:=pl
  exact call_list_seq p (.inr rfl) ho hc hd (fun h' c' kp e=>fin its r' hz h' c' kp e) (by simp only [Yq] <;> omega)
inductive rCall_tuple_ofI(K:XC)(xs:List V)(H:Hp)(Q:VK):Prop | mk (p ys) (_:xs=[.ref p]) (_:((SqL K H p ys∧∀ l,H l=none→Q (.ref l) (upd H l (.tup ys)))∨(SqT K H p ys∧Q (.ref p) H)))
theorem jp:bU X (.type "tuple") (rCall_tuple_ofI X.K):=by
 intro pins s σ H xs us Q I r h
 obtain⟨p,ys,rfl,h⟩:=h
 obtain⟨u,rfl,rx⟩:=cM r
 cases rx
 rcases h with ⟨hq,q⟩ | ⟨hq,q⟩
 ·obtain⟨its,r',pl,hz⟩:=I.list hq
  have hlen:=r'.length
  refine call_tuple_list pl.isList (fun h' kp=>?_) (by simp only [Yq] <;> omega)
  have I1:Inv X pins σ H {s with heap:=h'}:=I.kept (t':=s.toks) kp
  have I2:Inv X pins σ (upd H h'.objs.size (.tup ys)) {s with heap:=h'.push {cls:=.type "tuple",data:=.seq its.toArray}}:=
   I1.laid (t':=s.toks) (fun b o e=>Ye _ e) (Yg _) (show aB X.prog X.w _ _ _ (.tup ys) from ⟨hz,its,r',IsTup.new _ _⟩)
  exact⟨.ref h'.objs.size,_,I2,rfl,q _ (I1.hok.fresh (Yg _))⟩
 ·obtain⟨its,r',pl,hz⟩:=I.tuple hq
  exact call_tuple_same pl ⟨.ref p,H,I,rfl,q⟩
def tyV(K:XC)(T:String)(x:V)(H:Hp):Prop:=match x with
 | .str _=>T="str"
 | .int _=>T="int"
 | .ref p=>(T="list"∧∃ xs,SqL K H p xs)∨(T="tuple"∧∃ o,K.lookup p=some o∧o.cls=.type "tuple"∧o.dict=none)∨
   (T="dict"∧((∃ kvs,H p=some (.dK kvs))∨∃ kvs,H p=some (.dT kvs)))∨(T="set"∧∃ S n,H p=some (.set S n))
 | _=>False
theorem rP{pins:List (Addr×Obj)}{σ:St}{H:Hp}{s:Shared}{T:String}{x:V}{v:Value}(I:Inv X pins σ H s)(r:aq x v)(ty:tyV X.K T x H):
  s.TypeIs v T∧∀ a,v=.ref a→∃ ob,s.heap.get? a=some ob∧ob.dict=none:=by
 cases x with
 | str z=>
  obtain⟨t,rfl⟩:=r
  cases (show T="str" from ty)
  exact⟨typeIs_str s z t,fun _ e=>nomatch e⟩
 | int i=>
  obtain⟨t,rfl⟩:=r
  cases (show T="int" from ty)
  exact⟨typeIs_int s i t,fun _ e=>nomatch e⟩
 | ref p=>
  cases r
  rcases ty with ⟨rfl,xs,hq⟩ | ⟨rfl,o,hk,hc,hd⟩ | ⟨rfl,hk⟩ | ⟨rfl,S,n,hk⟩
  ·obtain⟨its,_,pl,_⟩:=I.list hq
   refine⟨pl.isList.typeIs,fun a e=>?_⟩
   cases e
   obtain⟨o,n,e,c,hd,_⟩:=pl
   exact⟨o,e,hd⟩
  ·refine⟨⟨o,I.kIn p o hk,hc⟩,fun a e=>?_⟩
   cases e
   exact⟨o,I.kIn _ o hk,hd⟩
  ·have z:∃ o,s.heap.get? p=some o∧o.ExactDict:=by
    rcases hk with ⟨kvs,hk⟩ | ⟨kvs,hk⟩
    ·obtain⟨_,_,_,_,o,_,_,e,ex,_⟩:=I.hok p _ hk
     exact⟨o,e,ex⟩
    ·obtain⟨_,_,_,_,o,_,_,e,ex,_⟩:=I.hok p _ hk
     exact⟨o,e,ex⟩
   obtain⟨o,e,ex⟩:=z
   refine⟨⟨o,e,ex.1⟩,fun a e2=>?_⟩
   cases e2
   exact⟨o,e,ex.2.1⟩
  ·obtain⟨o,_,_,_,e,ex,_⟩:=I.hok p _ hk
   refine⟨⟨o,e,ex.1⟩,fun a e2=>?_⟩
   cases e2
   exact⟨o,e,ex.2.1⟩
 | _=>exact False.elim ty
def AU(K:XC)(T:String)(r:V→List V→Hp→VK→Prop)(to:TE):TE:=fun σ H Q=>to σ H fun x H1=>tyV K T x H1∧r x [] H1 Q
def tBM(K:XC)(T:String)(r:V→List V→Hp→VK→Prop)(to:TE)(t:TA):TE:=fun σ H Q=>to σ H fun x H1=>tyV K T x H1∧t σ H1 fun xs H2=>r x xs H2 Q
variable{o e:Expr}{es:List Expr}{to:TE}{t:TA}{name:Str}{apos cpos:Pos}{T id:String}{r:V→List V→Hp→VK→Prop}
theorem tQ(pa:PlainAttrs T)(slot:Slot T name id)(hty:typeOf (.builtin id)=pure (.type "method_descriptor"))(hm:MtR X id r)(ho:PE X o to)
  (hbase:attributeBase o name X.env (eval o X.env)=eval o X.env:=by rfl) (hline:(apos.endLine==cpos.line)=true:=by rfl):PE X (.Call (.Attribute o name apos) [] [] cpos) (AU X.K T r to):=by
 intro pins s σ H Q I h
 refine wpAny_Call_method0_late hbase hline (thn (ho pins s σ H _ I h) fun v s1 ⟨x,H1,I1,r1,ty,q1⟩=>?_)
 obtain⟨h1,h2⟩:=rP I1 r1 ty
 exact⟨T,id,pa,slot,hty,h1,h2,Calls.callWith_builtin rfl (PySem.evalArgs_none (hm pins s1 σ H1 x [] v [] Q I1 r1 .nil q1))⟩
theorem jG(pa:PlainAttrs T)(slot:Slot T name id)(hty:typeOf (.builtin id)=pure (.type "method_descriptor"))(hm:MtR X id r)(ho:PE X o to)(ha:PA X (e::es) t)
  (hbase:attributeBase o name X.env (eval o X.env)=eval o X.env:=by rfl)
  (hfew:((backTo cpos (starEach (e::es) X.env)).all (fun x=>!x.1)&&(backToKw cpos (keywordEach [] X.env)).all (fun x=>x.1.isSome)
   && decide ((e::es).length+([]:List Keyword).length+(if ([]:List Keyword).isEmpty then 0 else 1)<30))=true:=by rfl)
  (hline:(apos.endLine==cpos.line)=true:=by rfl) (hs:starEach (e::es) X.env=(false,eval e X.env)::starEach es X.env:=by rfl) (hplain:(backTo cpos (starEach es X.env)).any (·.1)=false:=by rfl) :
  PE X (.Call (.Attribute o name apos) (e::es) [] cpos) (tBM X.K T r to t):=by
 intro pins s σ H Q I h
 refine wpAny_Call_method_late hbase hfew hline rfl (thn (ho pins s σ H _ I h) fun v s1 ⟨x,H1,I1,r1,ty,q1⟩=>?_)
 obtain⟨h1,h2⟩:=rP I1 r1 ty
 refine⟨T,id,pa,slot,hty,h1,h2,?_⟩
 have hA:=ha cpos pins s1 σ H1 _ I1 q1
 rw [hs] at hA ⊢
 refine Calls.callWith_builtin (by show (false||(backTo cpos (starEach es X.env)).any (·.1))=false; rw [hplain] <;> rfl) (Calls.evalArgs_plain ?_)
 exact thn hA fun us s2 ⟨vs,H2,I2,r2,q2⟩=>hm pins s2 σ H2 x vs v us Q I2 r1 r2 q2
end
def MtM(X:Cx)(id:String)(r:V→List V→Hp→VK→Prop):Prop:=
 ∀ (pins:List (Addr×Obj)) (s:Shared) (σ:St) (H:Hp) (x:V) (xs:List V) (v:Value) (us:List Value) (Q:VK),Inv X pins σ H s→aq x v→ap xs us→r x xs H Q→
  wpAny (model X.prog X.w) X.A (call (.builtin id) (v::us)) (EP X pins σ Q) X.xe s
theorem ap.one:∀ {x:V} {us:List Value},ap [x] us→∃ u,us=[u]∧aq x u
 | _,_,.cons r .nil=>⟨_,rfl,r⟩
theorem ap.zero:∀ {us:List Value},ap [] us→us=[]
 | _,.nil=>rfl
theorem ap.dropLast{xs:List V}{us:List Value}(h:ap xs us):ap xs.dropLast us.dropLast:=by
 induction h with
 | nil=>exact .nil
 | cons r t ih=>
  cases t with
  | nil=>exact .nil
  | cons q t'=>exact .cons r ih
theorem ap.eraseIdx:∀ {xs:List V} {us:List Value} (i:Nat),ap xs us→ap (xs.eraseIdx i) (us.eraseIdx i)
 | _,_,_,.nil=>.nil
 | _,_,0,.cons _ t=>t
 | _,_,i+1,.cons r t=>.cons r (ap.eraseIdx i t)
theorem ap.rep{xs:List V}{us:List Value}(h:ap xs us):∀ k:Nat,ap (List.replicate k xs).flatten (List.replicate k us).flatten
 | 0=>.nil
 | k+1=>by
  rw [Xx,Xx,List.flatten_cons,List.flatten_cons]
  exact ap.append h (ap.rep h k)
theorem ow{α:Type}(l:List α):l.eraseIdx (l.length-1)=l.dropLast:=by
 induction l with
 | nil=>rfl
 | cons a r ih=>
  cases r with
  | nil=>rfl
  | cons b r=>
   have e:(a::b::r).length-1=((b::r).length-1)+1:=by
    have h1:(a::b::r).length=r.length+2:=rfl
    have h2:(b::r).length=r.length+1:=rfl
    omega
   rw [e,List.eraseIdx_cons_succ,ih]
   all_goals rfl
theorem jO{α:Type}:∀ (l:List α) (i:Nat),(l.eraseIdx i).length≤l.length
 | [],_=>Yg _
 | _::_,0=>Nat.le_succ _
 | _::r,i+1=>Nat.succ_le_succ (jO r i)
theorem jW(its:List Value):∀ (k:Nat) (acc:List Value),
  List.foldl (fun x1 x2=>x1++x2) acc.toArray (List.replicate k its.toArray)=(acc++(List.replicate k its).flatten).toArray
 | 0,acc=>by simp
 | k+1,acc=>by
  have e:acc.toArray++its.toArray=(acc++its).toArray:=by simp
  have e2:(acc++its)++(List.replicate k its).flatten=acc++(List.replicate (k+1) its).flatten:=by
   rw [Xx,List.flatten_cons,YM]
  rw [← e2,← jW its k (acc++its),← e,Xx,List.foldl_cons]
section
variable{X:Cx}{pins:List (Addr×Obj)}{σ:St}{H:Hp}{s:Shared}{l b:Addr}{xs ys zs:List V}
theorem Inv.lset{its its':List Value}{n:Nat}{f:Array Value→Array Value}{t':Nat}(I:Inv X pins σ H s)(hH:H l=some (.lst xs))
  (e:s.heap.get? l=some {cls:=.type "list",data:=.seq its.toArray n}) (hf:f its.toArray=its'.toArray) (hv:ap ys its') (hz:ys.length≤sizeLine) :
  Inv X pins σ (upd H l (.lst ys)) {s with heap:=s.heap.update l (Obj.mapSeq f),toks:=t'}:=by
 have q:=PySem.IsL.update e f
 rw [hf] at q
 refine I.write (x:=l) (e:=l) (by rw [hH]; exact trivial) (.inl rfl) (fun b' u hb hu=>(Xn s.heap (Obj.mapSeq f) (Ne.symm hb)).trans hu) ⟨_,q⟩ ?_
 exact⟨hz,its',_,hv,q⟩
theorem Inv.lnew{its:List Value}{t':Nat}(I:Inv X pins σ H s)(hv:ap ys its)(hz:ys.length≤sizeLine):
  Inv X pins σ (upd H s.heap.objs.size (.lst ys)) {s with heap:=s.heap.push {cls:=.type "list",data:=.seq its.toArray},toks:=t'}:=
 I.laid (fun _ _ q=>Ye _ q) (Yg _) ⟨hz,its,0,hv,Yo _ rfl⟩
theorem Inv.fresh(I:Inv X pins σ H s):H s.heap.objs.size=none:=I.hok.fresh (Yg _)
theorem Inv.lstM(I:Inv X pins σ H s)(hH:H l=some (.lst xs)):xs.length≤sizeLine∧∃ (its:List Value) (n:Nat),ap xs its∧xs.length=its.length∧s.heap.get? l=some {cls:=.type "list",data:=.seq its.toArray n}:=by
 obtain⟨z,its,n,r,e⟩:=I.hok l _ hH
 exact⟨z,its,n,r,r.length,e⟩
theorem uv{n:Nat}(h:n≤sizeLine):Builtin.List.listTooLong n=false:=by
 unfold Builtin.List.listTooLong
 exact decide_eq_false (by omega)
end
section
variable{X:Cx}
inductive rAppend(x:V)(vs:List V)(H:Hp)(Q:VK):Prop | mk (l xs y) (_:x=.ref l) (_:vs=[y]) (_:H l=some (.lst xs)) (_:xs.length<sizeLine) (_:Q .non (upd H l (.lst (xs++[y]))))
theorem eK:MtM X "list.append" rAppend:=by
 intro pins s σ H x vs v us Q I rx rv h
 obtain⟨l,xs,y,rfl,rfl,hH,hz,q⟩:=h
 cases rx
 obtain⟨u,rfl,ru⟩:=rv.one
 obtain⟨z,its,n,r,hl,e⟩:=I.lstM hH
 refine call_meets F.slot_list_append ⟨_,e,rfl⟩ F.entry_list_append (F.args_list_append_2 _ _) (PySem.list_append l its.toArray n u (by rw [Yq]; omega)) ⟨e,?_⟩
 refine⟨.non,_,I.lset (its':=its++[u]) hH e (by simp) (r.append (.cons ru .nil)) ?_,rfl,q⟩
 rw [Yw,YZ]
 omega
inductive rPop(x:V)(vs:List V)(H:Hp)(Q:VK):Prop | mk (l xs y) (_:x=.ref l) (_:vs=[]) (_:H l=some (.lst xs)) (_:xs[xs.length-1]? = some y) (_:Q y (upd H l (.lst xs.dropLast)))
theorem uC:MtM X "list.pop" rPop:=by
 intro pins s σ H x vs v us Q I rx rv h
 obtain⟨l,xs,y,rfl,rfl,hH,hy,q⟩:=h
 cases rx
 have hus:=rv.zero
 subst hus
 obtain⟨z,its,n,r,hl,e⟩:=I.lstM hH
 obtain⟨u,hu,ru⟩:=r.get hy
 have hy':its.toArray[its.toArray.size-1]? = some u:=by
  show its.toArray[its.length-1]? = some u
  rw [← Array.getElem?_toList,← hl]
  exact hu
 refine call_meets F.slot_list_pop ⟨_,e,rfl⟩ F.entry_list_pop (F.args_list_pop_1 _) (MeetsSeq.list_pop_last l its.toArray n u hy' (by rw [Yq]; omega)) ⟨e,?_⟩
 refine⟨y,_,I.lset (its':=its.dropLast) hH e ?_ r.dropLast ?_,ru,q⟩
 ·show its.toArray.eraseIdxIfInBounds (its.toArray.size-1)=its.dropLast.toArray
  rw [Yq,List.eraseIdxIfInBounds_toArray,ow]
 ·rw [List.length_dropLast]
  omega
inductive rPopAt(x:V)(vs:List V)(H:Hp)(Q:VK):Prop | mk (l xs i k y) (_:x=.ref l) (_:vs=[.int i]) (_:H l=some (.lst xs)) (_:-(2 ^ 63)≤i) (_:i<2 ^ 63) (_:seqIndex? i xs.length=some k) (_:xs[k]? = some y) (_:Q y (upd H l (.lst (xs.eraseIdx k))))
theorem uB:MtM X "list.pop" rPopAt:=by
 intro pins s σ H x vs v us Q I rx rv h
 obtain⟨l,xs,i,k,y,rfl,rfl,hH,h1,h2,hk,hy,q⟩:=h
 cases rx
 obtain⟨u,rfl,ru⟩:=rv.one
 obtain⟨t,rfl⟩:=ru
 obtain⟨z,its,n,r,hl,e⟩:=I.lstM hH
 obtain⟨w,hw,rw'⟩:=r.get hy
 refine call_meets F.slot_list_pop ⟨_,e,rfl⟩ F.entry_list_pop (F.args_list_pop_2 _ _)
  (MeetsSeq.list_pop_at l its.toArray n i t k w (fitsIndex_both h1 h2) (by rw [Yq,← hl]; exact hk) (by rw [← Array.getElem?_toList]; exact hw) (by rw [Yq]; omega)) ⟨e,?_⟩
 refine⟨y,_,I.lset (its':=its.eraseIdx k) hH e ?_ (r.eraseIdx k) ?_,rw',q⟩
 ·show its.toArray.eraseIdxIfInBounds k=(its.eraseIdx k).toArray
  rw [List.eraseIdxIfInBounds_toArray]
 ·have:=jO xs k
  omega
inductive rCat(x y:V)(H:Hp)(Q:VK):Prop | mk (l b xs zs) (_:x=.ref l) (_:y=.ref b) (_:H l=some (.lst xs)) (_:H b=some (.lst zs)) (_:xs.length+zs.length≤sizeLine) (_:∀ p,H p=none→Q (.ref p) (upd H p (.lst (xs++zs))))
theorem yS:OpR X (binaryOp .Add) rCat:=by
 intro pins s σ H x y v u Q I rx ry h
 obtain⟨l,b,xs,zs,rfl,rfl,hH,hB,hz,q⟩:=h
 cases rx
 cases ry
 obtain⟨z,its,n,r,hl,e⟩:=I.lstM hH
 obtain⟨z2,its2,n2,r2,hl2,e2⟩:=I.lstM hB
 refine PySem.P.add_list e e2 ?_ (by rw [Yq,Yq]; omega)
 have ea:its.toArray++its2.toArray=(its++its2).toArray:=by simp
 rw [ea]
 exact⟨.ref _,_,I.lnew (t':=s.toks) (r.append r2) (by rw [Yw]; omega),rfl,q _ I.fresh⟩
inductive rRep(x y:V)(H:Hp)(Q:VK):Prop | mk (l k xs) (_:x=.ref l) (_:y=.int k) (_:H l=some (.lst xs)) (_:-(2 ^ 63)≤k) (_:k<2 ^ 63) (_:xs.length*k.toNat≤sizeLine) (_:∀ p,H p=none→Q (.ref p) (upd H p (.lst (List.replicate k.toNat xs).flatten)))
theorem xf{α:Type}(xs:List α)(k:Nat):(List.replicate k xs).flatten.length=k*xs.length:=by
 induction k with
 | zero=>simp
 | succ k ih=>rw [Xx,List.flatten_cons,Yw,ih,Nat.succ_mul,Nat.add_comm]
theorem yN:OpR X (binaryOp .Mult) rRep:=by
 intro pins s σ H x y v u Q I rx ry h
 obtain⟨l,k,xs,rfl,rfl,hH,h1,h2,hz,q⟩:=h
 cases rx
 obtain⟨t,rfl⟩:=ry
 obtain⟨z,its,n,r,hl,e⟩:=I.lstM hH
 have hlen:its.toArray.size*k.toNat≤sizeLine:=by rw [Yq,← hl]; exact hz
 have hcap:¬ its.toArray.size*k.toNat > (2 ^ 63-1) / 8:=by
  have : (sizeLine:Nat)≤(2 ^ 63-1) / 8:=by decide
  omega
 have hfit:¬ (!Builtin.List.listFitsIndex k)=true:=by
  rw [fitsIndex_both h1 h2]
  exact Yt
 have hlong:¬ Builtin.List.listTooLong (its.toArray.size*k.toNat)=true:=by
  rw [uv hlen]
  exact Yt
 have hnew:List.foldl (fun x1 x2=>x1++x2) #[] (List.replicate (if its.toArray.isEmpty=true then 0 else k.toNat) its.toArray)=(List.replicate k.toNat its).flatten.toArray:=by
  have f0:∀ m:Nat,List.foldl (fun x1 x2=>x1++x2) #[] (List.replicate m its.toArray)=(List.replicate m its).flatten.toArray:=fun m=>by
   have:=jW its m []
   rw [Xu] at this
   exact this
  rw [f0]
  cases its with
  | nil=>simp
  | cons a r'=>rw [if_neg (by simp)]
 refine wpAny_binaryOp_repeat_ref (T:="list") (U:="int") (by decide) ⟨_,e,rfl⟩ (fun s'=>typeIs_int s' k t) noFill_list_mul F.fills_int_mul F.slot_int_rmul repeat_list F.slot_int_index.lookup
  (call_meets F.slot_int_rmul (typeIs_int s k t) F.entry_int_rmul (F.args_int_rmul_2 _ _) (int___rmul___int_list k t l its.toArray n)
   ⟨e,rfl,⟨_,e,rfl⟩,call_meets F.slot_list_mul ⟨_,e,rfl⟩ F.entry_list_mul (F.args_list_mul_2 _ _) (AutoListH.list___mul___list_int_3 l its.toArray n k t hfit hcap hlong) ⟨e,?_⟩⟩)
 rw [hnew]
 exact⟨.ref _,_,I.lnew (t':=s.toks) (r.rep k.toNat) (by rw [xf,Nat.mul_comm]; exact hz),rfl,q _ I.fresh⟩
end
section
variable{prog:Program}{w:World}{A:Around}{E:Value→Shared→Prop}{s:Shared}
end
section
variable{X:Cx}
end
end L2
namespace Att
open PySem PySem.W PySem.Calls PyProof.Rows
theorem hJ{P:Params}{h:Heap}:∀ (ns:List Int) (vs:List Value),WellAll P h vs (ns.map WData.int)→IntsAre vs ns:=by
 intro ns
 induction ns with
 | nil=>
  intro vs w
  rw [List.map_nil] at w
  cases w
  exact .nil
 | cons n ns ih=>
  intro vs w
  rw [YA] at w
  cases w with
  | cons a b=>
   cases a
   exact .cons _ _ (ih _ b)
theorem qu{l:OpenLaw}{n:Nat}(hn:l.most=some n){P:Params}{h:Heap}{args:List WData}{vals:List Value}
  (hpre:l.row.toRowW.claim.pre args=true) (hwl:WellAll P h vals args) :
  ∃ a vs ns,vals=[Value.ref a]∧args=[WData.list (ns.map WData.int)]∧h.get? a=some {cls:=.type "list",data:=.seq vs.toArray}∧IntsAre vs ns∧ns.length≤n:=by
 have hsh:WShape.hasAll [] args [.list .int]=true:=(pre_splitW hpre).1
 have hc:l.pre.holds [] {args:=args}=true:=(pre_splitW hpre).2
 obtain⟨d,r,rfl,h1,h2⟩:=hasAllW_cons hsh
 obtain rfl:=hasAllW_nil h2
 obtain⟨xs,rfl,h3⟩:=hasW_list h1
 obtain⟨ns,rfl⟩:=items_int h3
 have hlen:ns.length≤n:=by
  unfold OpenLaw.pre at hc
  have h4:(WTm.not (.lt (.lit (.int (n:Int))) (.len (.arg 0)))).holds [] {args:=[.list (ns.map .int)]}=true:=by
   have h4:=(holds_andW hc).1
   rw [hn] at h4
   exact h4
  have h5:=condW_of h4 (w_not (w_lt w_lit (w_len_list (w_arg rfl))))
  rw [Yh] at h5
  refine Nat.le_of_not_lt fun q=>?_
  have q':(n:Int)<((ns.length:Nat):Int):=by omega
  first
   | (rw [decide_eq_true q'] at h5; exact absurd h5 (by decide))
   | (simp at h5; omega)
 cases hwl with
 | cons w1 w2=>
  cases w2
  cases w1 with
  | list ho hall=>exact⟨_,_,ns,rfl,rfl,ho,hJ ns _ hall,hlen⟩
theorem qw(l:OpenLaw)(args:List WData):l.row.toRowW.claim.post args (.bool true) args=true:=
 postW_of (r:=l.row.toRowW) (X:=(true==true))
  (show WShape.has [] (.bool true) .bool=true by first | rfl | decide | simp [WShape.has,WShape.arms,WShape.armsAll])
  (show (WTm.eq .res (.lit (.bool true))).value [] {args:=args,res:=some (.bool true),after:=args}=some (.bool (true==true)) from w_eq_bool (w_res rfl) w_lit) rfl
theorem attach_call{l:OpenLaw}{n:Nat}{q:Program}{loose:List Str}{XP:(Str→Option Value)→Heap→Prop}{YP:World→Heap→Prop}{d:DefRec}
  (hn:l.most=some n) (hdf:d.params.defaults=[])
  (call:∀ (w:World) (s₀ s₁:Shared) (mg mb:Str→Option Value) (fa:Addr) (o:Obj) (pm cd doc:Value) (a:Addr) (vs:List Value) (ns:List Int),
   Ground q loose [] XP w s₀ mg mb s₁.heap→YP w s₁.heap→
   s₁.heap.get? fa=some o→o.data=.func (docDef d.name d.params d.body d.scope pm cd doc)→s₁.heap.CodeRec cd d.name→mg d.name=some (.ref fa)→
   s₁.heap.get? a=some {cls:=.type "list",data:=.seq vs.toArray}→IntsAre vs ns→ns.length≤n→s₁.gens=#[]→
   codeAny (model l.prog w) callerA (.call (.ref fa) ⟨[.ref a],[]⟩) (fun r s'=>r=.ok (.ret (.bool true))∧OldK s₁.heap s'.heap∧s'.os=s₁.os∧AllBare s'.gens) s₁) :
  WalkO q loose XP YP l.row.toRowW d [] (fun f vs=>PySem.call f vs):=by
 intro w s₀ s₁ mg mb G Y fa o pm cd doc dV kV ho hd hcd hD hmg hg args vals as hpre hlay hrd hwl hlo
 obtain rfl:dV=.none:=Dflts.none hD hdf
 obtain rfl:kV=.none:=Dflts.noKw hD
 obtain⟨a,vs,ns,rfl,rfl,hobj,hints,hlen⟩:=qu hn hpre hwl
 refine enter_call (codeAny_mono (call w s₀ s₁ mg mb fa o pm cd doc a vs ns G Y ho (fd_plain hd) hcd hmg hobj hints hlen hg) fun r s' hq=>?_)
 obtain⟨rfl,h2,h3,h4⟩:=hq
 exact⟨.inl ⟨.bool true,.bool true,[],rfl,fun _=>rfl,.bool true,qw l _,fun _=>⟨List.Pairwise.nil,fun _ hm=>(nomatch hm)⟩⟩,h2,h3,h4⟩
section
variable{prog:Program}{w:World}{A:Around}{E:Value→Shared→Prop}{s:Shared}{K:Frag}
end
end Att
namespace L2
open PySem PySem.Spec PyProof.Rows
theorem jt:∀ {vs:List Value} {ns:List Int},IntsAre vs ns→ap (ns.map V.int) vs
 | _,_,.nil=>.nil
 | _,_,.cons n t h=>.cons ⟨t,rfl⟩ (jt h)
def zD(H:Hp):Prop:=∀ b,H b=none∨∃ o xs,H b=some (.frz o (.lst xs))
theorem uK{P:Program}{w:World}{K:XC}{mg mb:Str→Option Value}{CX:CXT}{k:Nat}{fa a:Addr}{fd:FuncData}{x:Str}{sp:Sp}{s₁:Shared}{vs:List Value}{ns:List Int}
  (KX:K.In s₁.heap) (hns:s₁.heap.Ns mainGlobals mg) (hb:s₁.heap.Ns builtinsNs mb) (hbb:∀ x:Str,x≠"__name__"→mb x=bootBuiltins x) (hlim:s₁.heap.NoLimit) (hsys:∃ mm,s₁.heap.Ns sysModules mm) (hg:s₁.gens=#[])
  (ha:s₁.heap.get? a=some {cls:=.type "list",data:=.seq vs.toArray}) (hi:IntsAre vs ns) (hl:ns.length≤sizeLine) (hr:aI k callerA)
  (F:∀ base:Heap,K.In base→base.Ns mainGlobals mg→cK P w K mg base CX k fa fd [x] sp) (hbind:∀ (s:Shared) (u:Value),BindsTo s fd ⟨[u],[]⟩ [(x,u)])
  (hsp:∀ H:Hp,zD H→SqL K H a (ns.map V.int)→sp [.ref a] H (fun v _=>v=.bl true) fun _ _ _=>False)
  (hCX:∀ H e s',CX [] H s₁ (fun _ _ _=>False) e s'→False) :
  codeAny (model P w) callerA (.call (.ref fa) ⟨[.ref a],[]⟩) (fun r s'=>r=.ok (.ret (.bool true))∧OldK s₁.heap s'.heap∧s'.os=s₁.os∧AllBare s'.gens) s₁:=by
 have rv:=jt hi
 have lenV:=hi.length
 have core:∀ H:Hp,zD H→SqL K H a (ns.map V.int)→HOk P w H s₁.heap→(∀ b,H b≠none→b=a)→(H a≠none→K.lookup a=none)→
   codeAny (model P w) callerA (.call (.ref fa) ⟨[.ref a],[]⟩) (fun r s'=>r=.ok (.ret (.bool true))∧OldK s₁.heap s'.heap∧s'.os=s₁.os∧AllBare s'.gens) s₁:=by
  intro H hO hS hok hA hK
  have base_of:∀ {b:Addr} {o:Obj},s₁.heap.get? b=some o→H b=none→(kS s₁.heap H).get? b=some o:=fun e n=>uU e n
  have noA:∀ {b:Addr} {o:Obj} {es:Array DictEntry} {ep:Nat},s₁.heap.get? b=some o→o.data=.dict es ep→H b=none:=fun {b o es ep} e d=>by
   cases q:H b with
   | none=>rfl
   | some u=>
    have e':b=a:=hA b (by rw [q]; simp)
    subst e'
    rw [ha] at e; cases e
    have d':Data.seq vs.toArray _=Data.dict es ep:=d
    cases d'
  have nsK:∀ {b:Addr} {m:Str→Option Value},s₁.heap.Ns b m→(kS s₁.heap H).Ns b m:=fun {b m} ⟨o,es,ep,e,d,r⟩=>⟨o,es,ep,base_of e (noA e d),d,r⟩
  have hKb:K.In (kS s₁.heap H):=fun b o e=>base_of (KX b o e) (by
   cases q:H b with
   | none=>rfl
   | some u=>
    have e':b=a:=hA b (by rw [q]; simp)
    subst e'
    rw [hK (by rw [q]; simp)] at e; cases e)
  have hM:Mod K mg (kS s₁.heap H):=⟨hKb,nsK hns,⟨mb,nsK hb,hbb⟩,let ⟨mc,h1,h2⟩:=hlim; ⟨mc,nsK h1,h2⟩,let ⟨mm,h1⟩:=hsys; ⟨mm,nsK h1⟩⟩
  have e0:lj P w K mg (kS s₁.heap H) callerA [] s₁ H:=⟨rfl,hM,fun b o e=>wW e,Nat.le_of_eq (qT _ _),trivial,fun b hb=>absurd (show b∈([]:List Addr) from hb) (by simp),hok,.of_eq hg⟩
  refine codeAny_mono ((F _ hKb (nsK hns)).run callerA [] s₁ H ⟨[.ref a],[]⟩ [.ref a] [.ref a] _ _ hr e0 (hbind s₁ (.ref a)) (.cons rfl .nil) (hsp H hO hS)) fun r s' h=>?_
  cases r with
  | error e=>exact(hCX H e s' h).elim
  | ok fl=>
   cases fl with
   | next=>exact False.elim h
   | brk=>exact False.elim h
   | cont=>exact False.elim h
   | ret u=>
    obtain⟨v,H',os,bare,un,hok',r',q⟩:=h
    have q':v=.bl true:=q
    subst q'
    obtain rfl:u=Value.bool true:=r'
    refine⟨rfl,OldK.of_keep fun b o e=>?_,os,bare⟩
    cases q:H b with
    | none=>exact un.keep b o e q (by intro z; exact absurd (show b∈([]:List Addr) from z) (by simp)) (by simp)
    | some u=>
     rcases hO b with z | ⟨ob,xs,z⟩
     ·rw [q] at z; cases z
     ·have z2:=un.frzs b ob _ z
      obtain⟨e1,_⟩:=hok b _ z
      obtain⟨e2,_⟩:=hok' b _ z2
      rw [e] at e1; cases e1
      exact e2
 cases hk:K.lookup a with
 | some o=>
  have e:=KX a o hk
  rw [ha] at e
  cases e
  refine core (fun _=>none) (fun _=>.inl rfl) (.inr ⟨_,vs.toArray,_,hk,rfl,rfl,rfl,by rw [Yq,lenV]; exact hl,by simpa using rv⟩) (fun b u z=>by have z':(none:Option HO)=some u:=z; cases z') (fun b z=>absurd rfl z) fun z=>absurd rfl z
 | none=>
  refine core (fun b=>if b=a then some (.frz {cls:=.type "list",data:=.seq vs.toArray} (.lst (ns.map V.int))) else none) (fun b=>?_) (.inl (.inr ⟨{cls:=.type "list",data:=.seq vs.toArray},if_pos rfl⟩)) (fun b u z=>?_) (fun b z=>?_) fun _=>hk
  ·by_cases hb:b=a
   ·exact .inr ⟨_,_,if_pos hb⟩
   ·exact .inl (if_neg hb)
  ·by_cases hb:b=a
   ·have z':=(if_pos hb).symm.trans z
    cases z'
    subst hb
    exact⟨ha,by rw [Yh]; exact hl,vs,_,rv,ha⟩
   ·have z':=(if_neg hb).symm.trans z
    cases z'
  ·by_cases hb:b=a
   ·exact hb
   ·exact absurd (if_neg hb) z
theorem walk_of{l:PySem.W.OpenLaw}{n k:Nat}{q:Program}{loose:List Str}{XP:(Str→Option Value)→Heap→Prop}{YP:World→Heap→Prop}{d:DefRec}{K:Params→XC}{CX:World→CXT}{sp:World→Sp}{x:Str}
  (hn:l.most=some n) (hn2:n≤sizeLine) (hdf:d.params.defaults=[]) (hr:aI k callerA) (hq:importsNone q=true)
  (hY:∀ (w:World) (h:Heap),YP w h→(K w.params).In h)
  (F:∀ (w:World) (mg:Str→Option Value) (fa:Addr) (h:Heap),(K w.params).In h→h.Ns mainGlobals mg→mg d.name=some (.ref fa)→
   ∃ fd:FuncData,(∀ (s:Shared) (u:Value),BindsTo s fd ⟨[u],[]⟩ [(x,u)])∧
    ∀ base:Heap,(K w.params).In base→base.Ns mainGlobals mg→cK l.prog w (K w.params) mg base (CX w) k fa fd [x] (sp w))
  (hsp:∀ (w:World) (H:Hp) (a:Addr) (ns:List Int),ns.length≤n→zD H→SqL (K w.params) H a (ns.map V.int)→sp w [.ref a] H (fun v _=>v=.bl true) fun _ _ _=>False)
  (hCX:∀ (w:World) (H:Hp) (s:Shared) (e:Value) (s':Shared),CX w [] H s (fun _ _ _=>False) e s'→False) :
  PySem.W.WalkO q loose XP YP l.row.toRowW d [] (fun f vs=>PySem.call f vs):=by
 refine Att.attach_call hn hdf fun w s₀ s₁ mg mb fa o pm cd doc a vs ns G Y ho hd hcd hmg hobj hints hlen hg=>?_
 have KX:=hY w _ Y
 obtain⟨fd,hb,hF⟩:=F w mg fa _ KX G.T.g hmg
 exact uK KX G.T.g G.T.b G.T.builtins G.T.nolimit (let ⟨mm,x,_⟩:=(G.T.seer hq).mods; ⟨mm,x⟩) hg hobj hints (Yn hlen hn2) hr hF hb (fun H hO hS=>hsp w H a ns hlen hO hS) fun H e s'=>hCX w H s₁ e s'
def f9(s:Stmt)(j:Nat):Stmt:=match s with
 | .ClassDef _ _ _ body _ _ _ _ _ _ _=>body.getD j (.Pass ⟨0,0,0,0⟩)
 | _=>.Pass ⟨0,0,0,0⟩
def cz(s:Stmt):Arguments:=match s with
 | .FunctionDef _ a _ _ _ _ _ _ _ _=>a
 | _=>{posonlyargs:=[],args:=[],vararg:=none,kwonlyargs:=[],kw_defaults:=[],kwarg:=none,defaults:=[]}
def bg(s:Stmt):List Stmt:=match s with
 | .FunctionDef _ _ b _ _ _ _ _ _ _=>b
 | _=>[]
def ag(s:Stmt):Scope:=match s with
 | .FunctionDef _ _ _ _ _ _ sc _ _ _=>sc
 | _=>{kind:=.function,names:=[],isGenerator:=false,isCoroutine:=false}
abbrev CX0:CXT:=fun _ _ _ _ _ _=>False
abbrev E0:XK:=fun _ _ _=>False
theorem tR{X:Cx}:fE CX0 X E0:=fun _ _ _ _ _ _ _ h=>h.elim
structure Fun(K:XC)(x qual:Str)(st:Stmt)(f:Addr)(fd:FuncData):Prop where
 ex:∃ (oc:Value) (od:Option Addr) (kV doc pm:Value) (an:Option Addr) (cdv ct:Value) (osl:Array (Option Value)),
  fd=PySem.W.fnOf x qual (cz st) (bg st) (ag st) .none kV doc pm an cdv ct∧K.lookup f=some ⟨oc,od,.func fd,osl⟩∧PySem.W.codeIn K cdv qual=true
 kp:PySem.W.keepIn K (.ref f)=true
section
variable{P:Program}{w:World}{K:XC}{mg:Str→Option Value}{base:Heap}
theorem Fun.ok{x qual:Str}{st:Stmt}{f:Addr}{fd:FuncData}{N ps:List Str}{k:Nat}{sp:Sp}(F:Fun K x qual st f fd)(S:aj N ps (ag st))(len:∀ vs H Q E,sp vs H Q E→vs.length=ps.length)
  (hbody:∀ (cdv:Value) (A:Around) (outer:List Env) (s:Shared) (H:Hp) (vs:List V) (Q:VK) (E:XK),aI k (A.deeper (envOfC qual (ag st) s.heap.objs.size f cdv))→sp vs H Q E→
   ∃ t,PSs (jo CX0 P w K mg base N qual (ag st) f cdv A outer s H E).nox (bg st) t∧t {nx:=fun _ H'=>Q .non H',rt:=Q} (b8 N vs) H):cK P w K mg base CX0 (k+1) f fd ps sp:=by
 obtain⟨oc,od,kV,doc,pm,an,cdv,ct,osl,rfl,lk,hcd⟩:=F.ex
 refine xV lk hcd S len fun A outer s H vs Q E hr hsp=>?_
 obtain⟨t,h,q⟩:=hbody cdv A outer s H vs Q E hr hsp
 exact⟨t,h.nox,q⟩
theorem Fun.binds{x qual:Str}{st:Stmt}{f:Addr}{fd:FuncData}{ps:List Str}(F:Fun K x qual st f fd)
  (h:∀ (kV doc pm:Value) (an:Option Addr) (cdv ct:Value) (us:List Value),us.length=ps.length→bindArgs (PySem.W.fnOf x qual (cz st) (bg st) (ag st) .none kV doc pm an cdv ct) ⟨us,[]⟩=pure (ps.zip us)):cg K fd ps []:=by
 obtain⟨oc,od,kV,doc,pm,an,cdv,ct,osl,rfl,lk,hcd⟩:=F.ex
 exact .all (h kV doc pm an cdv ct)
theorem i9{x qual:Str}{st:Stmt}{f:Addr}{oc:Value}{od an:Option Addr}{osl:Array (Option Value)}{kV doc pm cdv ct:Value}(l:K.lookup f=some ⟨oc,od,.func (PySem.W.fnOf x qual (cz st) (bg st) (ag st) .none kV doc pm an cdv ct),osl⟩)
  (c:PySem.W.codeIn K cdv qual=true) (k:PySem.W.keepIn K (.ref f)=true):Fun K x qual st f (PySem.W.fnOf x qual (cz st) (bg st) (ag st) .none kV doc pm an cdv ct):=⟨⟨oc,od,kV,doc,pm,an,cdv,ct,osl,rfl,l,c⟩,k⟩
end
theorem eU{A:Around}{k:Nat}(hr:aI k A):A.units+1<cLine:=YI (Nat.add_le_add_left (by decide:1≤64) _) hr.units
section
variable{X:Cx}
end
theorem cX{A B:Prop}(h:B):if false=true then A else B:=by
 rw [if_neg Yt]
 exact h
theorem uN{A B:Prop}(h:A):if true=true then A else B:=by
 rw [if_pos rfl]
 exact h
theorem zf{c A B:Prop}[Decidable c](h1:c→A)(h2:¬ c→B):if c then A else B:=by
 by_cases h:c
 ·rw [if_pos h]
  exact h1 h
 ·rw [if_neg h]
  exact h2 h
def Same(H H':Hp):Prop:=∀ b o,H b=some o→H' b=some o
theorem Same.refl(H:Hp):Same H H:=fun _ _ h=>h
theorem Same.trans{H H1 H2:Hp}(a:Same H H1)(b:Same H1 H2):Same H H2:=fun c o h=>b c o (a c o h)
theorem Same.free{H H':Hp}(e:Same H H'){l:Addr}(h:H' l=Option.none):H l=Option.none:=by
 cases q:H l with
 | none=>rfl
 | some o=>
  rw [e l o q] at h
  cases h
theorem Same.seq{K:XC}{H H':Hp}{a:Addr}{xs:List V}(e:Same H H')(h:SqL K H a xs):SqL K H' a xs:=by
 rcases h with (h | ⟨o,h⟩) | h
 ·exact .inl (.inl (e _ _ h))
 ·exact .inl (.inr ⟨o,e _ _ h⟩)
 ·exact .inr h
end L2
set_option maxHeartbeats 4000000
namespace L2
open PySem PySem.Spec PyProof.Rows
theorem cH{prog:Program}{w:World}{A:Around}{R:Result→Shared→Prop}{s:Shared}{elt target iter:Expr}{scope:Scope}{pos:Pos}{it acc:Value}{env:Env}(I:Nat→Shared→Prop)
  (turn:∀ n s,I n s→wpAny (model prog w) A (pyNext it) (fun r s1=>match r with
   | none=>R (.ok .next) s1
   | some v=>wpAny (model prog w) A (letOwnedTupleGo target it v) (fun _ s1'=>wpAny (model prog w) A (assign target env v) (fun _ s2=>
     wpAny (model prog w) A (eval elt env) (fun x s4=>
       wpAny (model prog w) A (call (.builtin "list.append") [acc,x]) (fun _ s5=>∃ m,m<n∧I m s5) (notedBy (model prog w) A env fun e s'=>R (.error e) s') s4) (notedBy (model prog w) A env fun e s'=>R (.error e) s') s2)
     (notedBy (model prog w) A env fun e s'=>R (.error e) s') s1') (notedBy (model prog w) A env fun e s'=>R (.error e) s') s1) (notedBy (model prog w) A env fun e s'=>R (.error e) s') s)
  (n:Nat) (h:I n s):codeAny (model prog w) A (.compLoop (.ListComp elt [⟨target,iter,[],0⟩] scope pos) 0 it acc env) R s:=by
 refine codeAny_loop rfl I (fun n s hI=>?_) n h
 show wpAny _ A ((compTurn (.ListComp elt [⟨target,iter,[],0⟩] scope pos) 0 it acc env).onRaise (fun x=>do noteFrame x env; theTreesLotGoes x)) _ _ s
 refine wpAny_noted ?_
 rw [compTurn_list]
 refine Yd (wpAny_standAt (Yd (Ym (turn n s hI) (fun r s1 h1=>?_) fun _ _ h'=>h')))
 cases r with
 | none=>exact Yf h1
 | some v=>
  refine Yd (Ym h1 (fun _ s1' h1'=>?_) fun _ _ h'=>h')
  refine Yd (Ym h1' (fun _ s2 h2=>Yd (Ym (wpAny_tests_nil (Q:=fun ok s3=>ok=true∧s3=s2) ⟨rfl,rfl⟩) (fun ok s3 h3=>?_) fun _ _ h'=>h')) fun _ _ h'=>h')
  obtain⟨rfl,rfl⟩:=h3
  exact Yd (Yd (Ym h2 (fun x s4 h4=>Yd (Ym h4 (fun _ s5 h5=>Yf (Yf ⟨rfl,h5⟩)) fun _ _ h'=>h')) fun _ _ h'=>h'))
theorem bC{env:Env}:∀ {names:List (Str×NameKind)} {x:Str},
  (names.map fun (n,k)=>if (k==NameKind.free&&env.scope.kind==.function&&env.kindOf n==some .cell) then (n,NameKind.cell) else (n,k)).lookup x =
   (names.lookup x).map fun k=>if (k==NameKind.free&&env.scope.kind==.function&&env.kindOf x==some .cell) then NameKind.cell else k
 | [],_=>rfl
 | (n,k)::r,x=>by
  have ih:=@bC env r x
  show List.lookup x ((if (k==NameKind.free&&env.scope.kind==.function&&env.kindOf n==some .cell)=true then (n,NameKind.cell) else (n,k))::_)=_
  cases hx:x==n with
  | true=>
   have e:x=n:=eq_of_beq hx
   subst e
   by_cases hc:(k==NameKind.free&&env.scope.kind==.function&&env.kindOf x==some .cell)=true
   ·rw [if_pos hc]; simp only [Y5,hx,Y0,hc,if_true]
   ·rw [if_neg hc]; simp only [Y5,hx,Y0,hc]; rfl
  | false=>
   by_cases hc:(k==NameKind.free&&env.scope.kind==.function&&env.kindOf n==some .cell)=true
   ·rw [if_pos hc]; simp only [Y5,hx]; exact ih
   ·rw [if_neg hc]; simp only [Y5,hx]; exact ih
def uJ(n:Nat)(N' N:List Str)(names:List (Str×NameKind)):Bool:=
 (List.range N.length).all fun i=>match N'[n+i]? with
  | none=>true
  | some x=>(names.lookup x==some .free&&N[i]? == some x) || !(names.lookup x==some .local||names.lookup x==some .cell||names.lookup x==some .free)
structure aE(n:Nat)(N':List Str)(X:Cx)(scope:Scope):Prop where
 kind:scope.kind=.function
 names:∀ x∈scope.names,x.2=.local→scope.names.lookup x.1=some .local
 cell:∀ x∈scope.names,x.2≠.cell
 free:∀ x∈scope.names,x.2=.free→X.env.kindOf x.1=some .cell∨X.env.kindOf x.1=some .free
 nd:N'.Nodup
 len:N'.length=n+X.N.length
 look:uJ n N' X.N scope.names=true
theorem de{scope:Scope}{env:Env}(hh:∀ x∈scope.names,x.2=.free→∃ c,env.cells.lookup x.1=some c):
  ∃ cl,closureFor scope env=pure cl∧(∀ x c,cl.lookup x=some c→env.cells.lookup x=some c)∧∀ x∈scope.names,x.2=.free→∃ c,cl.lookup x.1=some c:=by
 have all:∀ (l:List (Str×NameKind)) (cs:List (Str×Addr)),(∀ x∈l,x.2=.free→∃ c,env.cells.lookup x.1=some c)→(∀ x c,cs.lookup x=some c→env.cells.lookup x=some c)→
   ∃ cl,(forIn l cs fun (x:Str×NameKind) r=>if x.2==NameKind.free then (do let a ← cellOf env x.1; pure (ForInStep.yield ((x.1,a)::r))) else pure (ForInStep.yield r):Sem (List (Str×Addr)))=pure cl∧
    (∀ x c,cl.lookup x=some c→env.cells.lookup x=some c)∧(∀ x∈l,x.2=.free→∃ c,cl.lookup x.1=some c)∧∀ x,(∃ c,cs.lookup x=some c)→∃ c,cl.lookup x=some c:=by
  intro l
  induction l with
  | nil=>intro cs _ h; exact⟨cs,rfl,h,(fun _ h=>nomatch h),fun _ h=>h⟩
  | cons y r ih=>
   intro cs hf h
   obtain⟨n,k⟩:=y
   by_cases hk:k=.free
   ·subst hk
    obtain⟨a,ha⟩:=hf (n,.free) Yl rfl
    have h':∀ x c,List.lookup x ((n,a)::cs)=some c→env.cells.lookup x=some c:=fun x c e=>by
     cases hx:x==n with
     | true=>
      simp only [Y5,hx] at e
      have q:x=n:=eq_of_beq hx
      subst q
      rw [ha]; exact e
     | false=>
      simp only [Y5,hx] at e
      exact h x c e
    obtain⟨cl,e1,e2,e3,e4⟩:=ih ((n,a)::cs) (fun x hx=>hf x (Yj _ hx)) h'
    refine⟨cl,?_,e2,fun x hx hxf=>?_,fun x hx=>?_⟩
    ·rw [List.forIn_cons]
     have e5:cellOf env n=pure a:=by unfold cellOf; rw [ha]
     simp only [beq_self_eq_true,if_true,e5,pure_bind]
     exact e1
    ·rcases Yr.mp hx with rfl | hx
     ·exact e4 _ ⟨a,by simp [Y5]⟩
     ·exact e3 x hx hxf
    ·obtain⟨c,hc⟩:=hx
     refine e4 x ?_
     cases hx:x==n with
     | true=>exact⟨a,by simp only [Y5,hx]⟩
     | false=>exact⟨c,by simp only [Y5,hx]; exact hc⟩
   ·obtain⟨cl,e1,e2,e3,e4⟩:=ih cs (fun x hx=>hf x (Yj _ hx)) h
    refine⟨cl,?_,e2,fun x hx hxf=>?_,e4⟩
    ·rw [List.forIn_cons]
     have : (k==NameKind.free)=false:=by simpa using hk
     simp only [this,YU,if_false,pure_bind]
     exact e1
    ·rcases Yr.mp hx with rfl | hx
     ·exact absurd hxf hk
     ·exact e3 x hx hxf
 obtain⟨cl,e1,e2,e3,_⟩:=all scope.names [] hh (fun _ _ h=>nomatch h)
 refine⟨cl,?_,e2,e3⟩
 unfold closureFor
 refine Eq.trans (b:=(pure cl>>=fun cs=>pure cs)) ?_ rfl
 refine Eq.trans ?_ (congrArg (fun (m:Sem (List (Str×Addr)))=>m>>=fun cs=>pure cs) e1)
 rfl
def ak(X:Cx)(N':List Str)(scope:Scope)(cl:List (Str×Addr))(C:Addr)(ex:List Addr)(s:Shared)(H:Hp):Cx:=
 {X with N:=N',s₀:=s,H₀:=H,env:=compEnvC scope cl C X.env,outer:=X.stack,ex:=ex,fn:=fun _=>false,pn:=[]}
section
variable{X:Cx}{n:Nat}{N':List Str}{scope:Scope}{elt tg iter:Expr}{pos:Pos}{pins:List (Addr×Obj)}{σ:St}{H2:Hp}{s2:Shared}{cl:List (Str×Addr)}
def bp(X:Cx)(pins:List (Addr×Obj))(σ:St)(Q:VK)(acc:Value)(C:Addr)(s':Shared):Prop:=
 ∃ (D:Addr) (H':Hp) (m:Str→Option Value),acc=.ref D∧Inv X pins σ H' s'∧s'.heap.Ns C m∧dy X pins H' C∧Q (.ref D) H'
theorem jf{C D:Addr}{fp:List Addr}{s':Shared}{us:List Value}{k:Nat}(S:aE n N' X scope)(c1:∀ x c,cl.lookup x=some c→X.env.cells.lookup x=some c)(c2:∀ x∈scope.names,x.2=.free→∃ c,cl.lookup x.1=some c)
  (I2:Inv X pins σ H2 s2) (f2:∀ b∈fp,dy X pins H2 b) (fl:∀ b∈fp,@LT.lt Nat _ b s2.heap.objs.size) (hD:@Eq Nat D s2.heap.objs.size) (hC:@Eq Nat C (s2.heap.objs.size+1))
  (ho:s'.os=s2.os) (hg:s'.gens=s2.gens) (old:∀ b o,s2.heap.get? b=some o→s'.heap.get? b=some o) (hns:∃ m,s'.heap.Ns C m) (hd:s'.heap.get? D=some {cls:=.type "list",data:=.seq us.toArray k}) :
  Inv (ak X N' scope cl C fp s2 H2) [(D,{cls:=.type "list",data:=.seq us.toArray k})] (List.replicate n none++σ) H2 s':=by
 have frl:∀ b∈frs X.stack,@LT.lt Nat _ b s2.heap.objs.size:=fun b hb=>by
  obtain⟨_,o,ho,_⟩:=I2.stack.mem hb
  exact Yi ho
 have celll:∀ x c,cl.lookup x=some c→c<s2.heap.objs.size:=fun x c e=>by
  obtain⟨v,q⟩:=I2.cell x c (c1 x c e)
  exact q.lt
 have kOf:∀ x,(ak X N' scope cl C fp s2 H2).env.kindOf x=(scope.names.lookup x).map fun k=>if (k==NameKind.free&&X.env.scope.kind==.function&&X.env.kindOf x==some .cell) then NameKind.cell else k:=fun x=>bC
 have kfree:∀ x,((ak X N' scope cl C fp s2 H2).env.kindOf x=some .cell∨(ak X N' scope cl C fp s2 H2).env.kindOf x=some .free)→scope.names.lookup x=some .free:=fun x hx=>by
  rw [kOf x] at hx
  cases e:scope.names.lookup x with
  | none=>rw [e] at hx; rcases hx with hx | hx <;> cases hx
  | some kd=>
   rw [e] at hx
   cases kd with
   | free=>rfl
   | «local»=>rcases hx with hx | hx <;> (simp at hx)
   | cell=>exact absurd rfl (S.cell _ (PySem.mem_of_lookup e))
   | globalExplicit=>rcases hx with hx | hx <;> (simp at hx)
   | globalImplicit=>rcases hx with hx | hx <;> (simp at hx)
 have hasC:∀ x,scope.names.lookup x=some .free→∃ c,cl.lookup x=some c:=fun x hx=>c2 _ (PySem.mem_of_lookup hx) rfl
 have hH:∀ a,s2.heap.objs.size≤a→H2 a=none:=fun a ha=>I2.hok.fresh ha
 have ok:(ak X N' scope cl C fp s2 H2).Ok:=by
  refine⟨I2.ok.mod,S.kind,I2.ok.glob,I2.ok.blt,?_,fun x y c h1 h2=>?_,fun x hx=>hasC x (kfree x hx),fun x c h=>absurd h (by show ¬ (false=true); decide),I2.ok.hd,I2.ok.frames,.inl rfl,fun b hb=>?_,I2.bs,Yn I2.ok.bsz I2.sz,fun b o e hb=>?_,fun b hb z=>?_,I2.stack,I2.stkFree⟩
  ·show s2.heap.objs.size≤C
   omega
  ·exact I2.ok.inj x y c (c1 x c h1) (c1 y c h2)
  ·have:=fl b hb
   refine⟨by show @Ne Nat b C; omega,fun x c e z=>?_⟩
   exact(f2 b hb).2.2.2.2.1 x c (c1 x c e) z
  ·obtain⟨f0,f1,ff,f3,_⟩:=f2 b hb
   rcases f3 with z | z
   ·exact I2.ok.noex b o e z
   ·have q1:@LT.lt Nat _ b X.base.objs.size:=Yi e
    have q2:=I2.ok.bsz
    have q3:@LE.le Nat _ X.s₀.heap.objs.size b:=z
    omega
  ·obtain⟨f0,f1,ff,_⟩:=f2 b hb
   exact(Yr.mp (I2.stkSub b z)).elim f1 ff
 refine⟨ok,ho,by rw [hg]; exact I2.bare,Un.kept old,?_,fun x c e=>?_,?_,fun x c e=>?_,fun p hp=>?_,I2.hok.kept old,?_⟩
 ·obtain⟨m,hn⟩:=hns
  refine⟨m,hn,fun i x v e1 e2 e3=>?_⟩
  have e2':(List.replicate n (none:Option V)++σ)[i]? = some (some v):=e2
  have e1':N'[i]? = some x:=e1
  by_cases hi:i<n
  ·rw [Xv (by simpa using hi),List.getElem?_replicate] at e2'
   split at e2' <;> cases e2'
  ·obtain⟨j,rfl⟩:∃ j,i=n+j:=⟨i-n,by omega⟩
   rw [Xp (by simp)] at e2'
   simp only [Y3,Nat.add_sub_cancel_left] at e2'
   have hj:j<X.N.length:=by rw [← I2.len]; exact(Yv.mp e2').1
   have lk:=Xy.mp S.look j (List.mem_range.mpr hj)
   rw [e1'] at lk
   have vis:scope.names.lookup x=some .local∨scope.names.lookup x=some .cell∨scope.names.lookup x=some .free:=by
    have e3':(ak X N' scope cl C fp s2 H2).env.kindOf x=some .local∨(ak X N' scope cl C fp s2 H2).env.kindOf x=some .cell∨(ak X N' scope cl C fp s2 H2).env.kindOf x=some .free:=e3
    rcases e3' with z | z | z
    ·rw [kOf x] at z
     cases e:scope.names.lookup x with
     | none=>rw [e] at z; cases z
     | some kd=>
      rw [e] at z
      simp only [Y0] at z
      split at z
      ·cases z
      ·cases z; exact .inl rfl
    ·exact .inr (.inr (kfree x (.inl z)))
    ·exact .inr (.inr (kfree x (.inr z)))
   have lk2:scope.names.lookup x=some .free∧X.N[j]? = some x:=by
    simp only [Bool.or_eq_true,YK,Bool.not_eq_true',Bool.or_eq_false_iff,beq_iff_eq,beq_eq_false_iff_ne] at lk
    rcases lk with z | z
    ·exact z
    ·rcases vis with q | q | q
     ·exact absurd q z.1.1
     ·exact absurd q z.1.2
     ·exact absurd q z.2
   obtain⟨m0,hn0,hl0⟩:=I2.loc
   have vX:Vis X.env.scope x:=by
    rcases S.free _ (PySem.mem_of_lookup lk2.1) rfl with z | z
    ·exact .inr (.inl z)
    ·exact .inr (.inr z)
   obtain⟨u,r,l⟩:=hl0 j x v lk2.2 e2' vX
   refine⟨u,r,.inr ⟨?_,?_⟩⟩
   ·rw [kOf x,lk2.1]
    simp only [Y0]
    split
    ·exact .inl rfl
    ·exact .inr rfl
   ·obtain⟨c,hc⟩:=hasC x lk2.1
    refine⟨c,hc,?_⟩
    rcases l with ⟨kl,_⟩ | ⟨_,c',hc',z⟩
    ·rcases S.free _ (PySem.mem_of_lookup lk2.1) rfl with q | q <;> (rw [kl] at q; cases q)
    ·have:=c1 x c hc
     rw [hc'] at this; cases this
     obtain⟨oc,hoc,hdc⟩:=z
     exact⟨oc,old _ _ hoc,hdc⟩
 ·obtain⟨v,oc,hoc,hdc⟩:=I2.cell x c (c1 x c e)
  exact⟨v,oc,old _ _ hoc,hdc⟩
 ·exact hH C (by omega)
 ·exact I2.freeC x c (c1 x c e)
 ·have e:p=(D,{cls:=.type "list",data:=.seq us.toArray k}):=by simpa [ak] using hp
  subst e
  refine⟨hd,hH D (by omega),by show @Ne Nat D C; omega,fun z=>?_,fun v z=>by cases z⟩
  have:=frl D z
  omega
 ·show (List.replicate n none++σ).length=N'.length
  rw [Yw,Y3,S.len,I2.len]
def fG(n:Nat)(J:It)(g:TG)(te:TE)(σ:St)(H:Hp)(Q:VK):Prop:=
 ∃ W:Nat→Nat→List V→St→Hp→Prop,(∃ m,W 0 m [] (List.replicate n none++σ) H)∧∀ i m ys σ' H,W i m ys σ' H→
  (J.stop i H∧∀ D,H D=none→Q (.ref D) (upd H D (.lst ys)))∨
  (J.go i H∧ys.length<sizeLine∧∀ x H',J.yld i H x H'→g x σ' H' fun σ2 H2=>∃ N:VK,te σ2 H2 N∧∀ v H3,N v H3→∃ m',m'<m∧W (i+1) m' (ys++[v]) σ2 H3)
abbrev au(α:Type):=List (Str×Addr)→Addr→List Addr→Shared→Hp→α
def sj(n:Nat)(wi:TI)(g:au TG)(te:au TE):TE:=fun σ H Q=>wi σ H fun J H1=>∀ cl C ex s Hc,fG n J (g cl C ex s Hc) (te cl C ex s Hc) σ H1 Q
theorem jg{it:Addr}{fp:List Addr}{tn:Nat→Heap→Prop}{J:It}{g:au TG}{te:au TE}{Q:VK}{E:Value→Shared→Prop}
  (hE:∀ v s,¬ X.xe v s) (hc:X.calm=true) (S:aE n N' X scope) (c1:∀ x c,cl.lookup x=some c→X.env.cells.lookup x=some c) (c2:∀ x∈scope.names,x.2=.free→∃ c,cl.lookup x.1=some c)
  (I2:Inv X pins σ H2 s2) (T:hV X.prog X.w X.K tg J fp it tn) (st2:tn 0 s2.heap) (f2:∀ b∈fp,dy X pins H2 b)
  (hg:∀ cl C ex s H,PG (ak X N' scope cl C ex s H) tg (g cl C ex s H)) (he:∀ cl C ex s H,PE (ak X N' scope cl C ex s H) elt (te cl C ex s H))
  (cok:∀ cl C ex s Hc,fG n J (g cl C ex s Hc) (te cl C ex s Hc) σ H2 Q) :
  wpAny (model X.prog X.w) X.A (newList []) (fun acc s3=>wpAny (model X.prog X.w) X.A (newFunctionEnv scope X.env.globals cl [] X.env.qual none .none (some X.env)) (fun cenv s4=>
   codeAny (model X.prog X.w) X.A (.compStart (.ListComp elt [⟨tg,iter,[],0⟩] scope pos) 0 (.ref it) acc {cenv with scope:=relabel scope X.env})
    (fun r s'=>match r with | .ok _=>bp X pins σ Q acc cenv.locals s' | .error _=>False) s4) E s3) E s2:=by
 have fl:∀ b∈fp,@LT.lt Nat _ b s2.heap.objs.size:=fun b hb=>by
  obtain⟨o,e,_⟩:=T.obj _ _ st2 b hb
  exact Yi e
 have frl:∀ b∈frs X.stack,@LT.lt Nat _ b s2.heap.objs.size:=fun b hb=>by
  obtain⟨_,o,ho,_⟩:=I2.stack.mem hb
  exact Yi ho
 have celll:∀ x c,X.env.cells.lookup x=some c→@LT.lt Nat _ c s2.heap.objs.size:=fun x c e=>by
  obtain⟨v,q⟩:=I2.cell x c e
  exact q.lt
 refine wpAny_newObj_type (wpAny_newFunctionEnv S.cell (by intro y hy; simp at hy) (fun h1 hns1 hsb1=>?_) S.kind)
 dsimp only at hns1 hsb1 ⊢
 generalize hH2:s2.heap.push {cls:=.type "list",dict:=none,data:=.seq ([]:List Value).toArray}=G at hns1 hsb1 ⊢
 have hC:@Eq Nat G.objs.size (s2.heap.objs.size+1):=by rw [← hH2,YO]
 have hDC:s2.heap.objs.size≠G.objs.size:=by show @Ne Nat _ _; omega
 have below:∀ b,@LT.lt Nat _ b s2.heap.objs.size→b≠G.objs.size∧b≠s2.heap.objs.size:=fun b hb=>⟨by show @Ne Nat _ _; omega,Yu hb⟩
 have old:∀ b o,s2.heap.get? b=some o→h1.get? b=some o:=fun b o e=>hsb1.extBut b o (below b (Yi e)).1 (Ye _ (hH2▸Ye _ e))
 have hacc:h1.get? s2.heap.objs.size=some {cls:=.type "list",data:=.seq ([]:List Value).toArray 0}:=hsb1.extBut _ _ hDC (Ye _ (hH2▸Yo _ rfl))
 have hst1:tn 0 h1:=T.keep _ _ _ st2 fun b hb o e=>old b o e
 let X':=ak X N' scope cl G.objs.size fp s2 H2
 obtain⟨W,⟨m0,w0⟩,turn⟩:=cok cl G.objs.size fp s2 H2
 have hXe:X'.xe=X.xe:=rfl
 have stat:∀ {H':Hp} {ps:List (Addr×Obj)},(∀ b∈fp,H' b=none)→(∀ p∈ps,p.1=s2.heap.objs.size)→∀ b∈fp,dy X' ps H' b:=fun {H' ps} hn hp b hb=>by
  obtain⟨f0,f1,ff,f3,f4,f5⟩:=f2 b hb
  refine⟨hn b hb,(below b (fl b hb)).1,fun z=>?_,.inl hb,fun x c e z=>?_,fun p hp' z=>?_⟩
  ·exact(Yr.mp (I2.stkSub b z)).elim f1 ff
  ·exact f4 x c (c1 x c e) z
  ·have e:p.1=s2.heap.objs.size:=hp p (by simpa [X',ak] using hp')
   exact(below b (fl b hb)).2 (z.symm.trans e)
 have loop:∀ s3:Shared,s3={s2 with heap:=h1,toks:=s2.toks+([]:List (Str×Value)).length}→
   codeAny (model X.prog X.w) X.A (.compLoop (.ListComp elt [⟨tg,iter,[],0⟩] scope pos) 0 (.ref it) (.ref s2.heap.objs.size) (compEnvC scope cl G.objs.size X.env))
    (fun r s'=>match r with | .ok _=>bp X pins σ Q (.ref s2.heap.objs.size) G.objs.size s' | .error _=>False) s3:=by
  rintro s3 rfl
  have I3:=jf (us:=[]) (k:=0) (s':={s2 with heap:=h1,toks:=s2.toks+([]:List (Str×Value)).length}) S c1 c2 I2 f2 fl rfl hC rfl rfl old ⟨_,hns1⟩ hacc
  refine cH (fun m s'=>∃ i ys us k σ' H',Inv X' [(s2.heap.objs.size,{cls:=.type "list",data:=.seq (us:List Value).toArray k})] σ' H' s'∧ap ys us∧tn i s'.heap∧(∀ b∈fp,H' b=none)∧ys.length≤sizeLine∧W i m ys σ' H') ?_ m0
   ⟨0,[],[],0,_,H2,I3,.nil,hst1,fun b hb=>(f2 b hb).1,Yy _,w0⟩
  rintro m s' ⟨i,ys,us,k,σ',H',I',rv,st',fr',hlen,w'⟩
  rcases turn i m ys σ' H' w' with ⟨stop,q⟩ | ⟨go,hlt,step⟩
  ·refine thn (T.done X' rfl rfl rfl hc i _ s' σ' H' _ I' (stat fr' (by simp)) st' stop) fun r s4 ⟨hr,I4⟩=>?_
   subst hr
   show bp X pins σ Q (.ref s2.heap.objs.size) G.objs.size s4
   obtain⟨m1,hn1,_⟩:=I4.loc
   obtain⟨pD,nD,_,_,_⟩:=I4.pin (s2.heap.objs.size,{cls:=.type "list",data:=.seq us.toArray k}) (Yk _ (by simp))
   have nD:H' s2.heap.objs.size=none:=nD
   have pD:s4.heap.get? s2.heap.objs.size=some {cls:=.type "list",data:=.seq us.toArray k}:=pD
   have hok:HOk X.prog X.w (upd H' s2.heap.objs.size (.lst ys)) s4.heap:=fun b u e=>by
    by_cases hb:b=s2.heap.objs.size
    ·subst hb
     rw [aa] at e; cases e
     exact⟨hlen,us,k,rv,pD⟩
    ·rw [ac hb] at e
     exact(I4.hok b u e).stay (fun _ _ _ q=>q) (fun c q=>by rw [ac (ae q nD)]; exact q) fun c xs q=>by rw [ac (ae q nD)]; exact q
   have un:Un (frs X.stack) fp H2 (upd H' s2.heap.objs.size (.lst ys)) s2.heap s4.heap:=by
    have u0:=I4.base
    refine⟨u0.keep,u0.slot,fun b o e n hx=>?_,u0.there,fun b xs e=>?_,fun b o xs e=>?_,fun b ps e=>?_⟩
    ·rw [ac (below b (Yi e)).2]; exact u0.free b o e n hx
    ·have q:=u0.tups b xs e
     rw [ac (ae q nD)]; exact q
    ·have q:=u0.frzs b o xs e
     rw [ac (ae q nD)]; exact q
    ·obtain⟨more,q⟩:=u0.tbls b ps e
     exact⟨more,by rw [ac (ae q nD)]; exact q⟩
   have IX:Inv X pins σ (upd H' s2.heap.objs.size (.lst ys)) s4:=I2.call' (ch:=fp) I4.os un hok I4.bare fun b hb=>by
    obtain⟨f0,f1,ff,f3,f4,f5⟩:=f2 b hb
    exact⟨f3,f1,f4,f5⟩
   have hG0:H' G.objs.size=none:=I4.free
   refine⟨s2.heap.objs.size,_,m1,rfl,IX,hn1,⟨by rw [ac (Ne.symm hDC)]; exact hG0,fun z=>?_,fun z=>?_,.inr ?_,fun x c e z=>?_,fun p hp z=>?_⟩,q _ nD⟩
   ·have q1:@LT.lt Nat _ X.env.locals s2.heap.objs.size:=I2.lt
    have q2:@Eq Nat G.objs.size X.env.locals:=z
    omega
   ·have z':G.objs.size∈frs X.outer:=z
    obtain⟨_,o,ho,_⟩:=I2.funs.mem z'
    have q1:@LT.lt Nat _ G.objs.size s2.heap.objs.size:=Yi ho
    omega
   ·have q1:=I2.sz
    show @LE.le Nat _ X.s₀.heap.objs.size G.objs.size
    omega
   ·have q1:=celll x c e
    have q2:@Eq Nat c G.objs.size:=z
    omega
   ·have q1:@LT.lt Nat _ p.1 s2.heap.objs.size:=Yi (I2.pin p hp).1
    have q2:@Eq Nat p.1 G.objs.size:=z
    omega
  ·refine thn (T.item X' rfl rfl rfl hc i _ s' σ' H' _ I' (stat fr' (by simp)) st' go) fun r s4 ⟨u,hr,h4⟩=>?_
   subst hr
   show wpAny _ _ (letOwnedTupleGo tg (.ref it) u) _ _ s4
   refine thn h4 fun _ s5 ⟨x,H5,I5,r5,y5,st5,fr5⟩=>?_
   have I5':=I5.pinned (stat fr5 (by simp)) (T.obj _ _ st5)
   have w1:=hg cl G.objs.size fp s2 H2 _ s5 σ' H5 x u _ I5' r5 (step x H5 y5)
   refine Ym w1 (fun _ s6 ⟨σ6,H6,I6,q6⟩=>?_) fun v s hv=>absurd hv (hE v s)
   obtain⟨NN,q6,hNN⟩:=q6
   have w2:=he cl G.objs.size fp s2 H2 _ s6 σ6 H6 _ I6 q6
   refine Ym w2 (fun y s7 ⟨v,H7,I7,r7,q7⟩=>?_) fun v s hv=>absurd hv (hE v s)
   obtain⟨m',hm',w7⟩:=hNN v H7 q7
   have pinD:=I7.pin (s2.heap.objs.size,{cls:=.type "list",data:=.seq us.toArray k}) (Yk _ (YT _ (by simp)))
   obtain⟨pD,nD,lD,fD,_⟩:=pinD
   refine append_at (hsz:=by rw [Yq,← rv.length]; exact hlen) pD fun h8 hs8 hD8=>?_
   have nD:H7 s2.heap.objs.size=none:=nD
   have I8:Inv X' (bz fp s5.heap) σ6 H7 {s7 with heap:=h8}:=by
    refine(I7.pins_of (pins':=bz fp s5.heap) fun p hp=>I7.pin p (Yk _ (Yk _ hp))).turned (t':=s7.toks) (it:=s2.heap.objs.size) (fun b o hb e=>(hs8.2 b hb).trans e) nD lD (.inr (Yg _)) (fun x c e z=>?_) fun p hp z=>?_
    ·have q1:=celll x c (c1 x c e)
     have q2:@Eq Nat c s2.heap.objs.size:=z
     omega
    ·have hp':p∈bz fp s5.heap:=by simpa [X',ak] using hp
     have q1:=fl p.1 (dE hp').1
     have q2:@Eq Nat p.1 s2.heap.objs.size:=z
     omega
   have I9:Inv X' [(s2.heap.objs.size,{cls:=.type "list",data:=.seq (us++[y]).toArray (k+1)})] σ6 H7 {s7 with heap:=h8}:=I8.pins_of fun p hp=>by
    have e:p=(s2.heap.objs.size,{cls:=.type "list",data:=.seq (us++[y]).toArray (k+1)}):=by simpa using hp
    subst e
    refine⟨by rw [hD8,List.push_toArray],nD,lD,fD,fun v z=>by cases z⟩
   refine⟨m',hm',i+1,ys++[v],us++[y],k+1,σ6,H7,I9,rv.append (.cons r7 .nil),T.keep _ _ _ st5 fun b hb o e=>?_,fun b hb=>?_,by rw [Yw,YZ]; omega,w7⟩
   ·exact(I8.pin (b,o) (Yk _ (aH hb e))).1
   ·obtain⟨o,e,d⟩:=T.obj _ _ st5 b hb
    exact(I8.pin (b,o) (Yk _ (aH hb e))).2.1
 exact codeAny_compStart_list (loop _ rfl) (T.self _ 0 _ _ _ hst1 (loop _ rfl))
theorem wu{wi:TI}{g:au TG}{te:au TE}(hE:∀ v s,¬ X.xe v s)(hc:X.calm=true)(S:aE n N' X scope)(hi:PI X tg iter wi)
  (hg:∀ cl C ex s H,PG (ak X N' scope cl C ex s H) tg (g cl C ex s H)) (he:∀ cl C ex s H,PE (ak X N' scope cl C ex s H) elt (te cl C ex s H))
  (hs:∀ x,foldedSetIterable iter X.env x=pure x:=by intro _; rfl):PE X (.ListComp elt [⟨tg,iter,[],0⟩] scope pos) (sj n wi g te):=by
 intro pins s σ H Q I h
 rw [eval_ListComp]
 obtain⟨cl,hcl,c1,c2⟩:=de (scope:=scope) (env:=X.env) fun x hx hf=>I.ok.has x.1 (S.free x hx hf)
 refine wpAny_comprehension_free (use:=none) rfl hs hcl S.kind S.names (thn (hi pins s σ H _ I h) fun v s1 h1=>thn h1 fun itv s2 h2=>?_)
 obtain⟨it,fp,tn,J,H2,e,I2,T,st2,f2,cok⟩:=h2
 subst e
 refine Ym (jg (pos:=pos) (iter:=iter) (Q:=Q) (E:=X.xe) hE hc S c1 c2 I2 T st2 f2 hg he cok) (fun acc s3 h3=>Ym h3 (fun cenv s4 h4=>codeAny_mono h4 fun r s' hr=>?_) fun _ _ z=>z) fun _ _ z=>z
 cases r with
 | error e=>exact False.elim hr
 | ok f=>
  obtain⟨D,H',m,rfl,I',hn,⟨f0,f1,ff,f3,f4,f5⟩,q⟩:=hr
  refine⟨m,hn,fun h' hs'=>⟨.ref D,H',?_,rfl,q⟩⟩
  exact I'.turned (t':=s'.toks) (fun b o hb e=>(hs'.2 b hb).trans e) f0 f1 f3 f4 f5
theorem nP{wi:TI}{g:au TG}{te:au TE}{i:Nat}{x:Str}{pos' spos:Pos}(hN:X.N.Nodup)(hi0:X.N[i]? = some x)(hx:Loc X.env.scope x)
  (hsw:swapsWith (.ListComp elt [⟨tg,iter,[],0⟩] scope pos) (some (.Name x pos')) spos.line X.env=pure true)
  (hE:∀ v s,¬ X.xe v s) (hc:X.calm=true) (S:aE n N' X scope) (hi:PI X tg iter wi)
  (hg:∀ cl C ex s H,PG (ak X N' scope cl C ex s H) tg (g cl C ex s H)) (he:∀ cl C ex s H,PE (ak X N' scope cl C ex s H) elt (te cl C ex s H))
  (hs:∀ x,foldedSetIterable iter X.env x=pure x:=by intro _; rfl) (hf:X.fn x=true∨X.env.scope.names.lookup x=some .local:=by first | exact .inl rfl | exact .inr rfl | assumption) :
  PS X (.Assign [.Name x pos'] (.ListComp elt [⟨tg,iter,[],0⟩] scope pos) spos) (nj (sj n wi g te) (cG i)):=by
 intro pins s σ H D I h
 rw [exec_Assign_Name_used _ _ _ _ hsw]
 refine Yd (wpAny_standAt (Yd ?_))
 obtain⟨cl,hcl,c1,c2⟩:=de (scope:=scope) (env:=X.env) fun x hx hf=>I.ok.has x.1 (S.free x hx hf)
 show wpAny _ _ (do let _ ← comprehension (.ListComp elt [⟨tg,iter,[],0⟩] scope pos) scope X.env _ (newList []) false (eval iter X.env) (some (assign (.Name x pos') X.env))) _ _ s
 refine Yd (Ym (wpAny_comprehension_free (use:=some (assign (.Name x pos') X.env)) (Q:=fun _ s'=>SP X pins D .next s') rfl hs hcl S.kind S.names
  (thn (hi pins s σ H _ I h) fun v s1 h1=>thn h1 fun itv s2 h2=>?_)) (fun _ s' hq=>Yf (Yf hq)) fun _ _ e=>e)
 obtain⟨it,fp,tn,J,H2,e,I2,T,st2,f2,cok⟩:=h2
 subst e
 refine Ym (jg (pos:=pos) (iter:=iter) (E:=X.xe) (Q:=fun x H1=>cG i x σ H1 D.nx) hE hc S c1 c2 I2 T st2 f2 hg he cok) (fun acc s3 h3=>Ym h3 (fun cenv s4 h4=>codeAny_mono h4 fun r s' hr=>?_) fun _ _ z=>z) fun _ _ z=>z
 cases r with
 | error e=>exact False.elim hr
 | ok f=>
  obtain⟨Dl,H',m,rfl,I',hn,⟨f0,f1,ff,f3,f4,f5⟩,q⟩:=hr
  show wpAny _ _ (assign (.Name x pos') X.env (.ref Dl)) _ _ s'
  refine wpAny_assign_Name (gt I' hN hi0 hx (v:=.ref Dl) (u:=.ref Dl) rfl (fun s'' I'' hb=>?_) hf)
  obtain⟨a,sb,ha⟩:=hb
  have hCa:cenv.locals≠a:=by
   rcases ha with rfl | ha
   ·exact f1
   ·exact fun z=>f4 x a ha z.symm
  refine⟨m,hn.sameBut sb hCa,fun h' hs'=>⟨_,H',?_,q⟩⟩
  exact I''.turned (t':=s''.toks) (fun b o hb e=>(hs'.2 b hb).trans e) f0 f1 f3 f4 f5
end
section
variable{X:Cx}{tg:Expr}
def Its(z:Str):It:=⟨fun i _=>i<z.cps.size,fun i H x H'=>H'=H∧∃ c,z.cps[i]? = some c∧x=.str ⟨#[c]⟩,fun i _=>z.cps.size≤i⟩
theorem rR{P:Program}{w:World}{K:XC}{tg:Expr}{T:String}{t:Tok}(it:Addr)(z:Str)
  (hT:T="str_ascii_iterator"∨T="str_iterator") (W:∀ A:Around,A.handled=none→Walks P w A it [it] [it] z.cps.size (SignAt z) (fun i h=>h.IsStrIter it T z t i)) :
  hV P w K tg (Its z) [it] it (fun i h=>h.IsStrIter it T z t i) where
 mem:=by simp
 obj:=fun i h st b hb=>by
  have e:b=it:=by simpa using hb
  subst e
  obtain⟨o,e,c,d⟩:=st
  exact⟨o,e,fun v z=>by rw [d] at z; cases z⟩
 keep:=fun i h h' st k=>by
  obtain⟨o,e,r⟩:=st
  exact⟨o,k it (by simp) o e,r⟩
 item:=by
  intro X hP hw hK hc i pins s σ H E I hf st hg
  subst hP hw hK
  obtain⟨f0,f1,f2,f3,f4,f5⟩:=hf it (by simp)
  refine(W _ (I.ok.hd hc)).item i s _ _ hg st fun v h' tk hv st' kk=>?_
  obtain⟨c,u,hcu,rfl⟩:=hv
  have I1:Inv X pins σ H {s with heap:=h',toks:=tk}:=I.turned (fun b o hb e=>kk b o (by simpa using hb) e) f0 f1 f3 f4 f5
  obtain⟨o,e,cc,d⟩:=id st'
  refine⟨_,rfl,pK (s:={s with heap:=h',toks:=tk}) (n:=T) e cc d ?_ ⟨.str ⟨#[c]⟩,H,I1,⟨u,rfl⟩,⟨rfl,c,hcu,rfl⟩,st',fun b hb=>(hf b hb).1⟩⟩
  rcases hT with rfl | rfl <;> decide
 done:=by
  intro X hP hw hK hc i pins s σ H E I hf st hg
  subst hP hw hK
  obtain⟨f0,f1,f2,f3,f4,f5⟩:=hf it (by simp)
  have hg:z.cps.size≤i:=hg
  rcases hT with rfl | rfl
  ·exact wpAny_pyNext_ascii_end (I.ok.hd hc) st (by simp; omega) fun h' eb=>⟨rfl,I.turned (t':=s.toks) (fun b o hb e=>eb b o hb e) f0 f1 f3 f4 f5⟩
  ·exact wpAny_pyNext_wide_end (I.ok.hd hc) st (by simp; omega) fun h' eb=>⟨rfl,I.turned (t':=s.toks) (fun b o hb e=>eb b o hb e) f0 f1 f3 f4 f5⟩
 self:=fun A i s Q E st h=>by
  rcases hT with rfl | rfl
  ·exact wpAny_pyIter_striter_ascii st h
  ·exact wpAny_pyIter_striter_wide st h
inductive iStrI(R:It→Hp→Prop)(x:V)(H1:Hp):Prop | mk (z) (_:x=.str z) (_:R (Its z) H1)
def A5(tl:TE):TI:=fun σ H R=>tl σ H (iStrI R)
theorem yE{l:Expr}{tl:TE}(hl:PE X l tl):PI X tg l (A5 tl):=by
 intro pins s σ H R I h
 refine thn (hl pins s σ H _ I h) fun v s1 ⟨x,H1,I1,r1,q1⟩=>?_
 obtain⟨z,e,q⟩:=q1
 subst e
 obtain⟨t,rfl⟩:=r1
 have fin:∀ (T:String) (o:Obj),(T="str_ascii_iterator"∨T="str_iterator")→(∀ A:Around,A.handled=none→Walks X.prog X.w A s1.heap.objs.size [s1.heap.objs.size] [s1.heap.objs.size] z.cps.size (SignAt z) (fun i h=>h.IsStrIter s1.heap.objs.size T z t i))→
   (s1.heap.push o).IsStrIter s1.heap.objs.size T z t 0→PIE X pins σ tg R (.ref s1.heap.objs.size) {s1 with heap:=s1.heap.push o}:=fun T o hT W st=>
  ⟨s1.heap.objs.size,[s1.heap.objs.size],_,_,H1,rfl,I1.kept (t':=s1.toks) fun b o e=>Ye _ e,rR _ z hT W,st,fun b hb=>by
   have e:b=s1.heap.objs.size:=by simpa using hb
   subst e
   exact I1.fpOk (Yg _) (I1.hok.fresh (Yg _)),q⟩
 cases ha:z.cps.all (· < 128)
 ·exact wpAny_pyIter_wide ha (fin "str_iterator" _ (.inr rfl) (fun A hA=>Walks.strWide hA _ z t) ⟨_,Yo _ rfl,rfl,rfl⟩)
 ·exact wpAny_pyIter_ascii ha (fin "str_ascii_iterator" _ (.inl rfl) (fun A hA=>Walks.strAscii hA _ z t) ⟨_,Yo _ rfl,rfl,rfl⟩)
section forms
variable{J:It}{K:XC}{a:Addr}{xs:List V}{te:TE}{σ:St}{H:Hp}{Q:VK}
theorem bH(n:Nat)(Pv:Nat→List V→Hp→Prop)(Vx:Nat→V→Prop)(h0:Pv 0 [] H)(hz:n≤sizeLine)(hgo:∀ i ys H,i<n→ys.length=i→Pv i ys H→J.go i H∧∀ x H',J.yld i H x H'→H'=H∧Vx i x)
  (hstop:∀ ys H,ys.length=n→Pv n ys H→J.stop n H)
  (hs:∀ i x ys H,i<n→Vx i x→ys.length=i→Pv i ys H→te (some x::σ) H fun v H3=>Pv (i+1) (ys++[v]) H3)
  (hd:∀ ys H,ys.length=n→Pv n ys H→∀ D,H D=none→Q (.ref D) (upd H D (.lst ys))):fG 1 J (cG 0) te σ H Q:=by
 refine⟨fun i m ys σ' H=>m=n-i∧i≤n∧ys.length=i∧(∃ o,σ'=o::σ)∧Pv i ys H,⟨n,by simp,Yy _,rfl,⟨none,rfl⟩,h0⟩,?_⟩
 rintro i m ys σ' H ⟨rfl,hi,hy,⟨o,rfl⟩,p⟩
 by_cases hlt:i<n
 ·obtain⟨g1,g2⟩:=hgo i ys H hlt hy p
  refine .inr ⟨g1,by omega,fun x H' y=>?_⟩
  obtain⟨e,hx⟩:=g2 x H' y
  subst e
  exact⟨fun v H3=>Pv (i+1) (ys++[v]) H3,hs i x ys _ hlt hx hy p,fun v H3 h3=>⟨n - (i+1),by omega,rfl,hlt,by simp [hy],⟨_,rfl⟩,h3⟩⟩
 ·obtain rfl:i=n:=by omega
  exact .inl ⟨hstop ys H hy p,hd ys H hy p⟩
theorem gb{i:Nat}(hq:SqL K H a xs)(hlt:i<xs.length):(Itl K a).go i H∧∀ x H',(Itl K a).yld i H x H'→H'=H∧xs[i]? = some x:=
 ⟨⟨xs,xs[i],hq,by simp [hlt]⟩,fun x H' ⟨e,y⟩=>⟨e,y xs hq⟩⟩
theorem dA(hq:SqL K H a xs):(Itl K a).stop xs.length H:=⟨xs,hq,Yg _⟩
theorem om{i:Nat}(hq:SqT K H a xs)(hlt:i<xs.length):(Itt K a).go i H∧∀ x H',(Itt K a).yld i H x H'→H'=H∧xs[i]? = some x:=
 ⟨⟨xs,xs[i],hq,by simp [hlt]⟩,fun x H' ⟨e,y⟩=>⟨e,y xs hq⟩⟩
theorem iz(hq:SqT K H a xs):(Itt K a).stop xs.length H:=⟨xs,hq,Yg _⟩
theorem uV{lo:Int}{n i:Nat}(hlt:i<n):(Itr lo n).go i H∧∀ x H',(Itr lo n).yld i H x H'→H'=H∧x=.int (lo+i):=⟨hlt,fun _ _ y=>y⟩
theorem sm{lo:Int}{n:Nat}:(Itr lo n).stop n H:=Yg n
theorem on{z:Str}{i:Nat}(hlt:i<z.cps.size):(Its z).go i H∧∀ x H',(Its z).yld i H x H'→H'=H∧∃ c,z.cps[i]? = some c∧x=.str ⟨#[c]⟩:=⟨hlt,fun _ _ y=>y⟩
theorem iA{z:Str}:(Its z).stop z.cps.size H:=Yg z.cps.size
end forms
inductive rCall_allBI(K:XC)(xs:List V)(H:Hp)(Q:VK):Prop | mk (p:Addr) (bs:List Bool) (_:xs=[.ref p]) (_:SqL K H p (bs.map V.bl)) (_:Q (.bl (bs.all id)) H)
theorem rz(hc:X.calm=true):bU X (.builtin "all") (rCall_allBI X.K):=by
 intro pins s σ H xs us Q I r h
 obtain⟨p,bs,rfl,hq,q⟩:=h
 obtain⟨u,rfl,rx⟩:=cM r
 cases rx
 obtain⟨its,r',pl,hz⟩:=I.list hq
 have hlen:=r'.length
 rw [Yh] at hlen
 have hit:∀ (i:Nat) (v:Value),its[i]? = some v→∃ b,bs[i]? = some b∧v=Value.bool b:=fun i v e=>by
  have hi:i<its.length:=(Yv.mp e).1
  have hb:i<bs.length:=by omega
  obtain⟨u,hu,ru⟩:=r'.get (i:=i) (x:=V.bl bs[i]) (by simp [hb])
  rw [e] at hu; cases hu
  exact⟨bs[i],by simp [hb],ru⟩
 refine call_all_walk (wpAny_pyIter_list pl.isList ?_)
 have hp:p<s.heap.objs.size:=by obtain⟨o,n,e,_⟩:=pl; exact Yi e
 refine⟨s.heap.objs.size,[s.heap.objs.size,p],[s.heap.objs.size],its.toArray.size,_,_,fun i=>bs.getD i false,rfl,Walks.list (by simpa using I.ok.hd hc) _ p (Yu hp) its.toArray,⟨⟨_,Yo _ rfl,rfl,rfl⟩,pl.isList.push _⟩,fun i v s Q E hP hQ=>?_,fun h' tk kk=>?_⟩
 ·obtain⟨b,hb,rfl⟩:=hit i v (by simpa using hP)
  have e:bs.getD i false=b:=by simp [List.getD,hb]
  have hQ':Q (bs.getD i false) s:=hQ
  rw [e] at hQ'
  exact wpAny_truthy_bool hQ'
 ·have e:((List.range its.toArray.size).all fun i=>bs.getD i false)=bs.all id:=by
   rw [Yq,← hlen]
   rw [Xt,Xy,Xy]
   constructor
   ·intro h b hb
    obtain⟨i,hi,rfl⟩:=List.mem_iff_getElem.mp hb
    have:=h i (List.mem_range.mpr hi)
    simpa [List.getD,hi] using this
   ·intro h i hi
    have hi':=List.mem_range.mp hi
    have:=h bs[i] (Xd hi')
    simpa [List.getD,hi'] using this
  refine⟨.bl (bs.all id),H,?_,by rw [e]; rfl,q⟩
  exact I.kept fun b o eb=>kk b o (fun z=>Yu (Yi eb) (by simpa using z)) (Ye _ eb)
end
end L2
set_option maxHeartbeats 8000000
namespace L2
open PySem PySem.Spec PyProof.Rows
def ci(σ:List Str)(v:Str):List Str:=if σ.any (· == v) then σ else σ++[v]
def cJ(val:Nat→Str)(i:Nat):List Str:=((List.range i).map val).foldl ci []
theorem gA(val:Nat→Str)(i:Nat):cJ val (i+1)=ci (cJ val i) (val i):=by
 unfold cJ; rw [List.range_succ,Yz,List.foldl_append]; rfl
theorem ej(val:Nat→Str):∀ i,(cJ val i).length≤i
 | 0=>Yg _
 | i+1=>by
  rw [gA]; unfold ci
  have ih:=ej val i
  split
  ·omega
  ·rw [Yw,YZ]; omega
theorem qo(σ:List Str)(v k:Str):(ci σ v).any (· == k)=(σ.any (· == k)||decide (k=v)):=by
 unfold ci
 by_cases h:σ.any (· == v)=true
 ·rw [if_pos h]
  by_cases e:k=v
  ·subst e; rw [h]; simp
  ·simp [e]
 ·rw [if_neg h,List.any_append]
  by_cases e:k=v
  ·subst e; simp
  ·have hb:(v==k)=false:=by
    rw [beq_eq_false_iff_ne]; exact fun h'=>e h'.symm
   simp [hb,e]
theorem ki(σ:List Str)(v:Str):(ci σ v).length=if σ.any (· == v) then σ.length else σ.length+1:=by
 unfold ci; split <;> simp
section
variable{prog:Program}{w:World}{A:Around}{R:Result→Shared→Prop}{I:Addr}{fp wr:List Addr}{G:Array GenState→Array GenState→Prop}{n:Nat}{P:Nat→Value→Prop}{St:Nat→Shared→Prop}
theorem jB(W:WalksS prog w A.in1 I fp wr G n P St)(S:Addr)(hSf:S∉fp)
  (val:Nat→Str) (hval:∀ i v,P i v→∃ t,v=.str (val i) t) (hb:n+1<scanBound) :
  ∀ (k i:Nat) (s:Shared),n-i=k→i≤n→St i s→
   s.heap.SetOf (PySem.strKind prog w) S (fun k'=>(cJ val i).any (· == k')) (cJ val i).length→
   (∀ s',Moved (S::wr) G s s'→s'.heap.SetOf (PySem.strKind prog w) S (fun k'=>(cJ val n).any (· == k')) (cJ val n).length→R (.ok (.ret .none)) s')→
   codeAny (model prog w) A (.builtin "set.update.loop" ⟨[.ref S,.ref I],[]⟩) R s:=by
 have hSw:S∉wr:=fun h=>hSf (W.sub _ h)
 have hsub:∀ b∈wr,b∈S::wr:=fun b hb=>Yj _ hb
 intro k
 induction k with
 | zero=>
  intro i s hk hi hst hS hR
  have hin:i=n:=by omega
  subst hin
  refine codeAny_builtin PyProof.Rows.F.entry_set_update_loop ?_
  rw [Around.under_plainId PyProof.Rows.F.plain_set_update_loop _]
  show wpAny _ A.in1 (pyNext (.ref I)>>=_) _ _ s
  refine Yd (W.done s _ _ hst fun s' hm=>?_)
  show wpAny _ A.in1 (ret Value.none) _ _ s'
  exact Yf (hR s' (hm.mono hsub) (by
   obtain⟨o,es,ep,t,ho,rest⟩:=hS
   exact⟨o,es,ep,t,hm.heap S _ hSw ho,rest⟩))
 | succ k ih=>
  intro i s hk hi hst hS hR
  have hlt:i<n:=by omega
  refine codeAny_builtin PyProof.Rows.F.entry_set_update_loop ?_
  rw [Around.under_plainId PyProof.Rows.F.plain_set_update_loop _]
  show wpAny _ A.in1 (pyNext (.ref I)>>=_) _ _ s
  refine Yd (W.item i s _ _ hlt hst fun v s' hP hst' hm=>?_)
  obtain⟨t,rfl⟩:=hval i v hP
  have hS':s'.heap.SetOf (PySem.strKind prog w) S (fun k'=>(cJ val i).any (· == k')) (cJ val i).length:=by
   obtain⟨o,es,ep,tb,ho,rest⟩:=hS
   exact⟨o,es,ep,tb,hm.heap S _ hSw ho,rest⟩
  have his:(PySem.strKind prog w).is (val i) (.str (val i) t)=true:=by show Value.isStrOf (val i) (.str (val i) t)=true; simp [Value.isStrOf]
  show wpAny _ A.in1 (holding [Value.str (val i) t] (setAdd S (.str (val i) t))>>=_) _ _ s'
  refine Yd (wpAny_holding ?_)
  unfold setAdd
  refine wpAny_holding ?_
  refine Yd ((PySem.strKind prog w).pyHash (k:=val i) his ?_)
  have hroom:(cJ val i).length+1<scanBound:=by have:=ej val i; omega
  refine wpAny_setAddHashed_of (knd:=PySem.strKind prog w) (s:={s' with toks:=s'.toks+1}) his rfl hS' hroom fun h' hsb hS2=>?_
  have hSi:h'.SetOf (PySem.strKind prog w) S (fun k'=>(cJ val (i+1)).any (· == k')) (cJ val (i+1)).length:=
   SetOf_congr hS2 (fun k'=>by rw [gA,qo]) (by rw [gA,ki])
  refine Yf ⟨plainId_quiet PyProof.Rows.F.plain_set_update_loop _,ih (i+1) _ (by omega) hlt (W.frame _ s' _ _ hst' (Nat.le_succ _) fun b hb o e=>?_) hSi fun s'' hm'' hS''=>?_⟩
  ·rw [hsb.2 b (fun h:b=S=>hSf (by rw [← h]; exact hb))]; exact e
  ·refine hR s'' (Moved.trans W.gtrans ((hm.mono hsub).then_heap (Nat.le_succ _) fun b o hb e=>?_) hm'') hS''
   rw [hsb.2 b (fun h:b=S=>hb (by rw [h]; exact Yl))]; exact e
end
open Sem (wp)
theorem jl:isSubtype (.type "list") (.type "set")=pure false:=by rw [isSubtype_type]; kernel_rfl
theorem eP:isSubtype (.type "list") (.type "frozenset")=pure false:=by rw [isSubtype_type]; kernel_rfl
theorem jh{prog:Program}{w:World}{A:Around}{E:Value→Shared→Prop}{s:Shared}{l:Addr}{items:Array Value}{val:Nat→Str}{Q:Value→Shared→Prop}
  (hh:A.handled=none) (hl:s.heap.IsList l items) (hi:∀ (i:Nat) (v:Value),items[i]? = some v→∃ t,v=.str (val i) t) (hb:items.size+1<scanBound)
  (h:∀ (h':Heap) (tk:Nat),h'.SetOf (PySem.strKind prog w) s.heap.objs.size (fun k'=>(cJ val items.size).any (· == k')) (cJ val items.size).length→
   (∀ b o,b<s.heap.objs.size→s.heap.get? b=some o→h'.get? b=some o)→Q (.ref s.heap.objs.size) {s with heap:=h',toks:=tk}) :
  wpAny (model prog w) A (call (.type "set") [.ref l]) Q E s:=by
 obtain⟨c,tl,hmro⟩:=PySem.F.called_set.mro
 have hmade:=PySem.F.called_set.made
 have hsub:=PySem.F.called_set.sub
 refine wpAny_call (codeAny_of_tree ?_)
 show wpAny _ _ (callAny (.type "set") _) _ _ _
 refine Yf ⟨Code.quiet_builtin _ (by decide +kernel),codeAny_builtin PySem.F.entry_type_call ?_⟩
 rw [Around.under_plain (weight_type_call_type "set" [.ref l] []) rfl]
 have h1:=PySem.F.called_set.notType
 have h2:=PySem.F.called_set.canCreate
 have hct:=PySem.F.typeCall_set_1 (.ref l)
 repeat (any_goals (first | assumption | wp_step))
 refine codeAny_mono (code_set_new_1 (.ref l) (E:=E) (Q₁:=fun obj s₁=>∃ led:Bool,obj=.ref s.heap.objs.size∧s₁={s with heap:=s.heap.push {cls:=.type "set",dict:=none,data:=.set #[] 0 (.fresh 0 0 led)}}) fun led=>⟨led,rfl,rfl⟩) fun r s₁ hr=>?_
 cases r with
 | error e=>exact hr
 | ok fl=>
  cases fl with
  | ret obj=>
   obtain⟨led,rfl,rfl⟩:=hr
   have hS:(s.heap.push {cls:=.type "set",dict:=none,data:=.set #[] 0 (.fresh 0 0 led)}).get? s.heap.objs.size=some {cls:=.type "set",dict:=none,data:=.set #[] 0 (.fresh 0 0 led)}:=Yo _ rfl
   have hT:Shared.TypeIs {s with heap:=s.heap.push {cls:=.type "set",dict:=none,data:=.set #[] 0 (.fresh 0 0 led)}} (.ref s.heap.objs.size) "set":=⟨_,hS,rfl⟩
   have hli:=PySem.F.called_set.init.lookup
   have hbi:=PySem.F.called_set.init.bind (.ref s.heap.objs.size)
   repeat (any_goals (first | assumption | wp_step))
   refine codeAny_mono (codeAny_call_builtin (R:=wants (fun r s₂=>r=.none∧∃ h' tk,s₂={s with heap:=h',toks:=tk}∧
     h'.SetOf (PySem.strKind prog w) s.heap.objs.size (fun k'=>(cJ val items.size).any (· == k')) (cJ val items.size).length∧
     (∀ b o,b<s.heap.objs.size→s.heap.get? b=some o→h'.get? b=some o)) E) PySem.F.called_set.init.plain PySem.F.entry_set_init (check_set_init_1 hT ?_)) fun r₂ s₂ hr₂=>?_
   ·obtain⟨ol,hol,hcl,nl,hdl⟩:=hl
    obtain⟨ocls,odict,odata,oslots⟩:=ol
    simp only at hcl hdl
    subst hcl; subst hdl
    have hol':(s.heap.push {cls:=.type "set",dict:=none,data:=.set #[] 0 (.fresh 0 0 led)}).get? l=some {cls:=.type "list",dict:=odict,data:=.seq items nl,slots:=oslots}:=Ye _ hol
    have hsls:=jl
    have hslf:=eP
    have hne:(Value.type "list"==Value.type "dict")=false:=by decide
    have hl1:(s.heap.push {cls:=.type "set",dict:=none,data:=.set #[] 0 (.fresh 0 0 led)}).IsList l items:=⟨_,hol',rfl,nl,rfl⟩
    unfold Builtin.«set.__init__» noKeywords Builtin.Frozenset.updateFrom
    generalize hPI:pyIter=PI
    wp_walk
    subst hPI
    refine wpAny_pyIter_list hl1 ?_
    refine Yd (wpAny_runValue ?_)
    have hlS:l<s.heap.objs.size:=Yi hol
    have hh3:A.in1.in1.in1.handled=none:=by simp [hh]
    have hneI:l≠(s.heap.push {cls:=.type "set",dict:=none,data:=.set #[] 0 (.fresh 0 0 led)}).objs.size:=by
     rw [YO]; exact Yu (Nat.lt_succ_of_lt hlS)
    have hSf:s.heap.objs.size∉[(s.heap.push {cls:=.type "set",dict:=none,data:=.set #[] 0 (.fresh 0 0 led)}).objs.size,l]:=by
     rw [YO]; simp only [Yr,Yp,Y2,or_false,not_or]
     exact⟨Yu (Y8 _),Xl hlS⟩
    refine jB ((Walks.list hh3 _ l hneI items).toS) s.heap.objs.size
     hSf val hi hb (items.size-0) 0 _ (by omega) (Yy _)
     ⟨⟨_,Yo _ rfl,rfl,rfl⟩,(hl1.push _)⟩ ?hS0 ?hR
    case hS0=>
     have hget:((s.heap.push {cls:=.type "set",dict:=none,data:=.set #[] 0 (.fresh 0 0 led)}).push {cls:=.type "list_iterator",data:=.fields #[.ref l,.int 0 0]}).get? s.heap.objs.size
       = some {cls:=.type "set",dict:=none,data:=.set #[] 0 (.fresh 0 0 led)}:=Ye _ hS
     exact PyProof.Rows.SetOf_congr ((PyProof.Rows.setObjOf_fresh (knd:=PySem.strKind prog w) led).setOf hget (by unfold scanBound; omega)) (fun _=>rfl) rfl
    case hR=>
     intro s' hm hS'
     obtain⟨h',g',d',tk',os'⟩:=s'
     have eg:g'=s.gens:=hm.gens
     have ed:d'=s.drawn:=hm.drawn
     have eo:os'=s.os:=hm.os
     subst eg; subst ed; subst eo
     show wpAny _ _ _ _ _ _
     refine Yf ?_
     show wpAny _ _ (ret Value.none) _ _ _
     refine Yf ⟨rfl,h',tk',rfl,hS',fun b o hb e=>?_⟩
     have hb1:b≠s.heap.objs.size:=Yu hb
     have hb2:b≠(s.heap.push {cls:=.type "set",dict:=none,data:=.set #[] 0 (.fresh 0 0 led)}).objs.size:=by
      rw [YO]; exact Yu (Nat.lt_succ_of_lt hb)
     exact hm.heap b o (by simp only [Yr,Yp,Y2,or_false,not_or]; exact⟨hb1,hb2⟩) (Ye _ (Ye _ e))
   ·cases r₂ with
    | error e=>exact hr₂
    | ok fl₂=>
     cases fl₂ with
     | ret r=>
      obtain⟨rfl,h',tk,rfl,hS',hk'⟩:=hr₂
      repeat (any_goals (first | assumption | wp_step))
      exact h _ _ hS' hk'
     | _=>exact hr₂.elim
  | _=>exact hr.elim
theorem iw:isSubtype (.type "tuple") (.type "set")=pure false:=by rw [isSubtype_type]; kernel_rfl
theorem d7:isSubtype (.type "tuple") (.type "frozenset")=pure false:=by rw [isSubtype_type]; kernel_rfl
theorem hU{prog:Program}{w:World}{A:Around}{E:Value→Shared→Prop}{s:Shared}{l:Addr}{items:Array Value}{val:Nat→Str}{Q:Value→Shared→Prop}
  (hh:A.handled=none) (hl:s.heap.IsTuple l items) (hi:∀ (i:Nat) (v:Value),items[i]? = some v→∃ t,v=.str (val i) t) (hb:items.size+1<scanBound)
  (h:∀ (h':Heap) (tk:Nat),h'.SetOf (PySem.strKind prog w) s.heap.objs.size (fun k'=>(cJ val items.size).any (· == k')) (cJ val items.size).length→
   (∀ b o,b<s.heap.objs.size→s.heap.get? b=some o→h'.get? b=some o)→Q (.ref s.heap.objs.size) {s with heap:=h',toks:=tk}) :
  wpAny (model prog w) A (call (.type "set") [.ref l]) Q E s:=by
 obtain⟨c,tl,hmro⟩:=PySem.F.called_set.mro
 have hmade:=PySem.F.called_set.made
 have hsub:=PySem.F.called_set.sub
 refine wpAny_call (codeAny_of_tree ?_)
 show wpAny _ _ (callAny (.type "set") _) _ _ _
 refine Yf ⟨Code.quiet_builtin _ (by decide +kernel),codeAny_builtin PySem.F.entry_type_call ?_⟩
 rw [Around.under_plain (weight_type_call_type "set" [.ref l] []) rfl]
 have h1:=PySem.F.called_set.notType
 have h2:=PySem.F.called_set.canCreate
 have hct:=PySem.F.typeCall_set_1 (.ref l)
 repeat (any_goals (first | assumption | wp_step))
 refine codeAny_mono (code_set_new_1 (.ref l) (E:=E) (Q₁:=fun obj s₁=>∃ led:Bool,obj=.ref s.heap.objs.size∧s₁={s with heap:=s.heap.push {cls:=.type "set",dict:=none,data:=.set #[] 0 (.fresh 0 0 led)}}) fun led=>⟨led,rfl,rfl⟩) fun r s₁ hr=>?_
 cases r with
 | error e=>exact hr
 | ok fl=>
  cases fl with
  | ret obj=>
   obtain⟨led,rfl,rfl⟩:=hr
   have hS:(s.heap.push {cls:=.type "set",dict:=none,data:=.set #[] 0 (.fresh 0 0 led)}).get? s.heap.objs.size=some {cls:=.type "set",dict:=none,data:=.set #[] 0 (.fresh 0 0 led)}:=Yo _ rfl
   have hT:Shared.TypeIs {s with heap:=s.heap.push {cls:=.type "set",dict:=none,data:=.set #[] 0 (.fresh 0 0 led)}} (.ref s.heap.objs.size) "set":=⟨_,hS,rfl⟩
   have hli:=PySem.F.called_set.init.lookup
   have hbi:=PySem.F.called_set.init.bind (.ref s.heap.objs.size)
   repeat (any_goals (first | assumption | wp_step))
   refine codeAny_mono (codeAny_call_builtin (R:=wants (fun r s₂=>r=.none∧∃ h' tk,s₂={s with heap:=h',toks:=tk}∧
     h'.SetOf (PySem.strKind prog w) s.heap.objs.size (fun k'=>(cJ val items.size).any (· == k')) (cJ val items.size).length∧
     (∀ b o,b<s.heap.objs.size→s.heap.get? b=some o→h'.get? b=some o)) E) PySem.F.called_set.init.plain PySem.F.entry_set_init (check_set_init_1 hT ?_)) fun r₂ s₂ hr₂=>?_
   ·obtain⟨ol,hol,hcl,nl,hdl⟩:=hl
    obtain⟨ocls,odict,odata,oslots⟩:=ol
    simp only at hcl hdl
    subst hcl; subst hdl
    have hol':(s.heap.push {cls:=.type "set",dict:=none,data:=.set #[] 0 (.fresh 0 0 led)}).get? l=some {cls:=.type "tuple",dict:=odict,data:=.seq items nl,slots:=oslots}:=Ye _ hol
    have hsls:=iw
    have hslf:=d7
    have hne:(Value.type "tuple"==Value.type "dict")=false:=by decide
    have hl1:(s.heap.push {cls:=.type "set",dict:=none,data:=.set #[] 0 (.fresh 0 0 led)}).IsTuple l items:=⟨_,hol',rfl,nl,rfl⟩
    unfold Builtin.«set.__init__» noKeywords Builtin.Frozenset.updateFrom
    generalize hPI:pyIter=PI
    wp_walk
    subst hPI
    refine wpAny_pyIter_tuple hl1 ?_
    refine Yd (wpAny_runValue ?_)
    have hlS:l<s.heap.objs.size:=Yi hol
    have hh3:A.in1.in1.in1.handled=none:=by simp [hh]
    have hneI:l≠(s.heap.push {cls:=.type "set",dict:=none,data:=.set #[] 0 (.fresh 0 0 led)}).objs.size:=by
     rw [YO]; exact Yu (Nat.lt_succ_of_lt hlS)
    have hSf:s.heap.objs.size∉[(s.heap.push {cls:=.type "set",dict:=none,data:=.set #[] 0 (.fresh 0 0 led)}).objs.size,l]:=by
     rw [YO]; simp only [Yr,Yp,Y2,or_false,not_or]
     exact⟨Yu (Y8 _),Xl hlS⟩
    refine jB ((Walks.tuple hh3 _ l hneI items).toS) s.heap.objs.size
     hSf val hi hb (items.size-0) 0 _ (by omega) (Yy _)
     ⟨⟨_,Yo _ rfl,rfl,rfl⟩,(hl1.push _)⟩ ?hS0 ?hR
    case hS0=>
     have hget:((s.heap.push {cls:=.type "set",dict:=none,data:=.set #[] 0 (.fresh 0 0 led)}).push {cls:=.type "tuple_iterator",data:=.fields #[.ref l,.int 0 0]}).get? s.heap.objs.size
       = some {cls:=.type "set",dict:=none,data:=.set #[] 0 (.fresh 0 0 led)}:=Ye _ hS
     exact PyProof.Rows.SetOf_congr ((PyProof.Rows.setObjOf_fresh (knd:=PySem.strKind prog w) led).setOf hget (by unfold scanBound; omega)) (fun _=>rfl) rfl
    case hR=>
     intro s' hm hS'
     obtain⟨h',g',d',tk',os'⟩:=s'
     have eg:g'=s.gens:=hm.gens
     have ed:d'=s.drawn:=hm.drawn
     have eo:os'=s.os:=hm.os
     subst eg; subst ed; subst eo
     show wpAny _ _ _ _ _ _
     refine Yf ?_
     show wpAny _ _ (ret Value.none) _ _ _
     refine Yf ⟨rfl,h',tk',rfl,hS',fun b o hb e=>?_⟩
     have hb1:b≠s.heap.objs.size:=Yu hb
     have hb2:b≠(s.heap.push {cls:=.type "set",dict:=none,data:=.set #[] 0 (.fresh 0 0 led)}).objs.size:=by
      rw [YO]; exact Yu (Nat.lt_succ_of_lt hb)
     exact hm.heap b o (by simp only [Yr,Yp,Y2,or_false,not_or]; exact⟨hb1,hb2⟩) (Ye _ (Ye _ e))
   ·cases r₂ with
    | error e=>exact hr₂
    | ok fl₂=>
     cases fl₂ with
     | ret r=>
      obtain⟨rfl,h',tk,rfl,hS',hk'⟩:=hr₂
      repeat (any_goals (first | assumption | wp_step))
      exact h _ _ hS' hk'
     | _=>exact hr₂.elim
  | _=>exact hr.elim
def zB(P:Program)(w:World)(p:Addr)(xs:List Str):HO:=HO.ext fun h=>h.SetOf (PySem.strKind P w) p (fun k=>(xs.foldl ci []).any (· == k)) (xs.foldl ci []).length
theorem qK(xs:List Str):cJ (fun i=>xs.getD i Str.empty) xs.length=xs.foldl ci []:=by
 unfold cJ
 congr 1
 apply List.ext_getElem
 ·simp
 ·intro i h1 h2
  simp [List.getD,h2]
theorem lx{xs:List Str}{its:List Value}(r:ap (xs.map V.str) its):∀ (i:Nat) (v:Value),its.toArray[i]? = some v→∃ t,v=.str (xs.getD i Str.empty) t:=fun i v e=>by
 have hlen:=r.length
 rw [Yh] at hlen
 have e:its[i]? = some v:=by simpa using e
 have hi:i<its.length:=(Yv.mp e).1
 have hb:i<xs.length:=by omega
 obtain⟨u,hu,ru⟩:=r.get (i:=i) (x:=V.str xs[i]) (by simp [hb])
 rw [e] at hu; cases hu
 obtain⟨t,rfl⟩:=ru
 exact⟨t,by simp [List.getD,hb]⟩
section
variable{X:Cx}
inductive rCall_setTI(K:XC)(P:Program)(w:World)(xs:List V)(H:Hp)(Q:VK):Prop | mk (p:Addr) (ys:List Str) (_:xs=[.ref p]) (_:(SqL K H p (ys.map V.str)∨SqT K H p (ys.map V.str))) (_:ys.length+1<scanBound) (_:∀ d,H d=none→Q (.ref d) (upd H d (zB P w d ys)))
theorem rh(hc:X.calm=true):bU X (.type "set") (rCall_setTI X.K X.prog X.w):=by
 intro pins s σ H xs us Q I r h
 obtain⟨p,ys,rfl,hq,hb,q⟩:=h
 obtain⟨u,rfl,rx⟩:=cM r
 cases rx
 have fin:∀ (its:List Value),ys.length=its.length→∀ (h':Heap) (tk:Nat),h'.SetOf (PySem.strKind X.prog X.w) s.heap.objs.size (fun k'=>(cJ (fun i=>ys.getD i Str.empty) its.toArray.size).any (· == k')) (cJ (fun i=>ys.getD i Str.empty) its.toArray.size).length→
   (∀ b o,b<s.heap.objs.size→s.heap.get? b=some o→h'.get? b=some o)→EP X pins σ Q (.ref s.heap.objs.size) {s with heap:=h',toks:=tk}:=fun its hl h' tk hS kk=>by
  have esz:its.toArray.size=ys.length:=by rw [Yq,hl]
  rw [esz,qK] at hS
  refine⟨.ref s.heap.objs.size,_,I.laid (t':=tk) (fun b o e=>kk b o (Yi e) e) (Yg _) ?_,rfl,q _ (I.hok.fresh (Yg _))⟩
  refine⟨hS,?_,fun h1 h2 a b=>?_⟩
  ·obtain⟨o,es,ep,t,ho,_⟩:=hS
   exact⟨o,ho⟩
  ·obtain⟨o,es,ep,t,ho,rest⟩:=a
   exact⟨o,es,ep,t,b o ho,rest⟩
 rcases hq with hq | hq
 ·obtain⟨its,r',pl,hz⟩:=I.list hq
  have hlen:=r'.length
  rw [Yh] at hlen
  exact jh (val:=fun i=>ys.getD i Str.empty) (I.ok.hd hc) pl.isList (lx r') (by rw [Yq]; omega) (fin its hlen)
 ·obtain⟨its,r',pl,hz⟩:=I.tuple hq
  have hlen:=r'.length
  rw [Yh] at hlen
  exact hU (val:=fun i=>ys.getD i Str.empty) (I.ok.hd hc) pl (lx r') (by rw [Yq]; omega) (fin its hlen)
inductive rCall_lenTI(P:Program)(w:World)(xs:List V)(H:Hp)(Q:VK):Prop | mk (p:Addr) (ys:List Str) (_:xs=[.ref p]) (_:H p=some (zB P w p ys)) (_:Q (.int (ys.foldl ci []).length) H)
theorem rm:bU X (.builtin "len") (rCall_lenTI X.prog X.w):=by
 intro pins s σ H xs us Q I r h
 obtain⟨p,ys,rfl,hp,q⟩:=h
 obtain⟨u,rfl,rx⟩:=cM r
 cases rx
 obtain⟨hS,_,_⟩:=I.hok p _ hp
 have hS:s.heap.SetOf (PySem.strKind X.prog X.w) p (fun k=>(ys.foldl ci []).any (· == k)) (ys.foldl ci []).length:=hS
 obtain⟨o,es,ep,t,ho,hex,hd,_,_,hsb,hf,hn⟩:=hS
 refine call_len_set ho hex hd hf (by unfold scanBound at hsb; omega) ⟨.int (ys.foldl ci []).length,H,I.tok _,⟨_,by rw [hn]⟩,q⟩
end
theorem gY:∀ (xs σ:List Str),xs.Nodup→(∀ x∈xs,¬ x∈σ)→(xs.foldl ci σ).length=σ.length+xs.length
 | [],σ,_,_=>by simp
 | x::r,σ,h,hn=>by
  obtain⟨h1,h2⟩:=YH.mp h
  have e:ci σ x=σ++[x]:=by
   unfold ci
   rw [if_neg]
   intro z
   obtain⟨y,hy,e⟩:=List.any_eq_true.mp z
   exact hn x Yl (by rw [← eq_of_beq e]; exact hy)
  rw [List.foldl_cons,e,gY r _ h2 fun y hy z=>?_]
  ·simp; omega
  ·rcases YN.mp z with q | q
   ·exact hn y (Yj _ hy) q
   ·exact h1 (by rw [← Yp.mp q]; exact hy)
theorem jr:∀ {xs:List Str} {its:List Value},ap (xs.map V.str) its→∃ l:List (Str×Tok),its=strValues l∧l.map (·.1)=xs
 | [],_,.nil=>⟨[],rfl,rfl⟩
 | x::r,_,.cons ⟨t,e⟩ tl=>by
  obtain⟨l,e1,e2⟩:=jr tl
  exact⟨(x,t)::l,by rw [e,e1]; rfl,by rw [← e2]; rfl⟩
section
variable{X:Cx}
inductive rMt_joinI(K:XC)(x:V)(xs:List V)(H:Hp)(Q:VK):Prop | mk (sep:Str) (p:Addr) (ys:List Str) (_:x=.str sep) (_:xs=[.ref p]) (_:SqL K H p (ys.map V.str)) (_:JoinOk sep ys=true) (_:Q (.str (Str.join sep ys)) H)
theorem w4:MtR X "str.join" (rMt_joinI X.K):=by
 intro pins s σ H x xs v us Q I rx rs h
 obtain⟨sep,p,ys,rfl,rfl,hq,hok,q⟩:=h
 obtain⟨t,rfl⟩:=rx
 obtain⟨u,rfl,ru⟩:=cM rs
 cases ru
 obtain⟨its,r',pl,hz⟩:=I.list hq
 obtain⟨l,rfl,e2⟩:=jr r'
 refine SC.join pl.isList e2 hok fun t' k=>⟨.str (Str.join sep ys),H,I.tok k,⟨t',?_⟩,q⟩
 show Value.str (Txt.join sep ys) t'=_
 rw [show Txt.join sep ys=Str.join sep ys from StrLaws.glued_eq_join sep ys]
inductive rCall_isiTI(K:XC)(T:String)(xs:List V)(H:Hp)(Q:VK):Prop | mk (x:V) (t:Value) (b:Bool) (_:xs=[x,.ty T]) (_:d3 K H x t) (_:PySem.W.kitOne K t (.type T)=some b) (_:Q (.bl b) H)
theorem rn{T:String}:bU X (.builtin "isinstance") (rCall_isiTI X.K T):=by
 intro pins s σ H xs us Q I r h
 obtain⟨x,t,b,rfl,ty,e,q⟩:=h
 obtain⟨u,u',rfl,rx,ry⟩:=gP r
 cases ry
 exact qR I rx ty e fun tk=>⟨.bl b,H,I.tok tk,rfl,q⟩
theorem oh{pins:List (Addr×Obj)}{σ:St}{H:Hp}{s:Shared}{A:Around}{E:Value→Shared→Prop}{Q:Value→Shared→Prop}{b:Bool}{x:V}{u t:Value}{tp:Addr}{cs:List Value}(I:Inv X pins σ H s)(rx:aq x u)(ty:d3 X.K H x t)
  (htp:∃ (dd:Option Addr) (n:Nat) (sl:Array (Option Value)),s.heap.get? tp=some ⟨.type "tuple",dd,.seq cs.toArray n,sl⟩) (e:PySem.W.kitAny X.K t cs=some b) (h:∀ tk,Q (.bool b) {s with toks:=tk}) :
  wpAny (model X.prog X.w) A (call (.builtin "isinstance") [u,.ref tp]) Q E s:=by
 obtain⟨dd,n,sl,htp⟩:=htp
 cases ty with
 | non=>cases (show u=Value.none from rx); exact PySem.W.kia_tup PySem.W.kitx_none I.kIn True.intro htp e (fun z=>nomatch z) h
 | bl y=>cases (show u=Value.bool y from rx); exact PySem.W.kia_tup PySem.W.kitx_bool I.kIn True.intro htp e (fun z=>nomatch z) h
 | int i=>obtain⟨t,q⟩:=(show ∃ t,u=Value.int i t from rx); cases q; exact PySem.W.kia_tup PySem.W.kitx_int I.kIn True.intro htp e (fun z=>nomatch z) h
 | str y=>obtain⟨t,q⟩:=(show ∃ t,u=Value.str y t from rx); cases q; exact PySem.W.kia_tup PySem.W.kitx_str I.kIn True.intro htp e (fun z=>nomatch z) h
 | flt y=>obtain⟨t,q⟩:=(show ∃ t,u=Value.float y t from rx); cases q; exact PySem.W.kia_tup PySem.W.kitx_float I.kIn True.intro htp e (fun z=>nomatch z) h
 | @lst a xs ea=>
  cases (show u=Value.ref a from rx)
  obtain⟨_,_,n,_,h1⟩:=(show aB X.prog X.w H s.heap a (.lst xs) from I.hok a _ ea)
  exact PySem.W.kia_tup PySem.W.kitx_list I.kIn ⟨_,h1,rfl⟩ htp e (fun z=>nomatch z) h
 | @frz a ob xs ea=>
  cases (show u=Value.ref a from rx)
  obtain⟨_,_,_,n,_,h1⟩:=(show aB X.prog X.w H s.heap a (.frz ob (.lst xs)) from I.hok a _ ea)
  exact PySem.W.kia_tup PySem.W.kitx_list I.kIn ⟨_,h1,rfl⟩ htp e (fun z=>nomatch z) h
 | @tup a xs ea=>
  cases (show u=Value.ref a from rx)
  obtain⟨_,_,_,p⟩:=(show aB X.prog X.w H s.heap a (.tup xs) from I.hok a _ ea)
  obtain⟨o,h1,h2,_⟩:=p
  exact PySem.W.kia_tup PySem.W.kitx_tuple I.kIn ⟨o,h1,h2⟩ htp e (fun z=>nomatch z) h
 | @dK a kvs ea=>
  cases (show u=Value.ref a from rx)
  obtain⟨_,_,vs,_,p⟩:=(show aB X.prog X.w H s.heap a (.dK kvs) from I.hok a _ ea)
  obtain⟨o,es,ep,h1,h2,_⟩:=p
  exact PySem.W.kia_tup PySem.W.kitx_dict I.kIn ⟨o,h1,h2.1⟩ htp e (fun z=>nomatch z) h
 | @dT a kvs ea=>
  cases (show u=Value.ref a from rx)
  obtain⟨_,_,xs,_,o,es,ep,h1,h2,_⟩:=(show aB X.prog X.w H s.heap a (.dT kvs) from I.hok a _ ea)
  exact PySem.W.kia_tup PySem.W.kitx_dict I.kIn ⟨o,h1,h2.1⟩ htp e (fun z=>nomatch z) h
 | @ins a C dx fs ea cl ha hn htk hm=>
  cases (show u=Value.ref a from rx)
  obtain⟨mA,O,_⟩:=f8 I.hok ea
  obtain⟨od,J,_⟩:=O.look
  exact PySem.W.kia_tup (PySem.W.kitx_own (cl.get _) cl.hd ha hn htk hm) I.kIn J htp e (fun z=>nomatch z) h
inductive rCall_isi2I(K:XC)(T U:String)(xs:List V)(H:Hp)(Q:VK):Prop | mk (x:V) (p:Addr) (t:Value) (b:Bool) (_:xs=[x,.ref p]) (_:H p=some (.tup [.ty T,.ty U])) (_:d3 K H x t) (_:PySem.W.kitAny K t [.type T,.type U]=some b) (_:Q (.bl b) H)
theorem rp{T U:String}:bU X (.builtin "isinstance") (rCall_isi2I X.K T U):=by
 intro pins s σ H xs us Q I r h
 obtain⟨x,p,t,b,rfl,hp,ty,e,q⟩:=h
 obtain⟨u,u',rfl,rx,ry⟩:=gP r
 cases ry
 obtain⟨_,its,rv,o,h1,h2,n,h3⟩:=I.hok p _ hp
 obtain⟨a,b',rfl,ra,rb⟩:=gP rv
 cases ra
 cases rb
 refine oh (cs:=[.type T,.type U]) I rx ty ?_ e fun tk=>⟨.bl b,H,I.tok tk,rfl,q⟩
 obtain⟨oc,od,odt,osl⟩:=o
 cases h2
 cases h3
 exact⟨od,n,osl,h1⟩
end
section
variable{X:Cx}
inductive rCatTT(K:XC)(x y:V)(H:Hp)(Q:VK):Prop | mk (a b xs ys) (_:x=.ref a) (_:y=.ref b) (_:SqT K H a xs) (_:SqT K H b ys) (_:xs.length+ys.length≤sizeLine) (_:(xs=[]→Q (.ref b) H)) (_:(xs≠[]→ys=[]→Q (.ref a) H)) (_:(xs≠[]→ys≠[]→∀ p,H p=none→Q (.ref p) (upd H p (.tup (xs++ys)))))
theorem tV:OpR X (binaryOp .Add) (rCatTT X.K):=by
 intro pins s σ H x y v u Q I rx ry h
 obtain⟨a,b,xs,ys,rfl,rfl,ha,hb,hz,q0,q1,q2⟩:=h
 by_cases hx:xs=[]
 ·cases rx
  cases ry
  obtain⟨its,r1,p1,_⟩:=I.tuple ha
  obtain⟨its2,r2,p2,_⟩:=I.tuple hb
  obtain⟨⟨cls,dd,data,sl⟩,ho,hc,n,hd⟩:=id p1
  obtain⟨⟨cls2,dd2,data2,sl2⟩,ho2,hc2,n2,hd2⟩:=id p2
  simp only at hc hd hc2 hd2
  subst hc hd hc2 hd2
  have e:its=[]:=r1.nil_iff.mpr hx
  exact concat_meets ⟨_,ho,rfl⟩ ⟨_,ho2,rfl⟩ noFill_tuple_add seq_tuple_add PySem.F.slot_tuple_add PySem.F.entry_tuple_add (PySem.F.args_tuple_add_2 _ _)
   (tuple_addW0 a b its.toArray its2.toArray n n2 dd dd2 sl sl2 (by simp [e])) ⟨ho,ho2,⟨.ref b,H,I,rfl,q0 hx⟩⟩
 ·exact wF pins s σ H _ _ v u Q I rx ry ⟨a,b,xs,ys,rfl,rfl,ha,hb,hx,hz,q1 hx,q2 hx⟩
theorem ji:bootBuiltins "len"=some (.builtin "len"):=by decide +kernel
theorem vq:bootBuiltins "max"=some (.builtin "max"):=by decide +kernel
theorem zy:bootBuiltins "abs"=some (.builtin "abs"):=by decide +kernel
theorem rA:bootBuiltins "divmod"=some (.builtin "divmod"):=by decide +kernel
theorem zx:bootBuiltins "all"=some (.builtin "all"):=by decide +kernel
theorem pS:bootBuiltins "repr"=some (.builtin "repr"):=by decide +kernel
theorem bR:bootBuiltins "isinstance"=some (.builtin "isinstance"):=by decide +kernel
theorem pT:bootBuiltins "list"=some (.type "list"):=by decide +kernel
theorem mP:bootBuiltins "tuple"=some (.type "tuple"):=by decide +kernel
theorem vt:bootBuiltins "int"=some (.type "int"):=by decide +kernel
theorem vp:bootBuiltins "str"=some (.type "str"):=by decide +kernel
theorem zu:bootBuiltins "set"=some (.type "set"):=by decide +kernel
theorem pU:bootBuiltins "dict"=some (.type "dict"):=by decide +kernel
def Def(P:Program)(w:World)(K:XC)(mg:Str→Option Value)(base:Heap)(x:Str)(k:Nat)(ps:List Str)(sp:Sp):Prop:=
 ∃ f fd,mg x=some (.ref f)∧PySem.W.keepIn K (.ref f)=true∧cg K fd ps []∧cK P w K mg base CX0 k f fd ps sp
theorem tN{x:Str}{k:Nat}{ps:List Str}{sp:Sp}{p pos:Pos}{e:Expr}{es:List Expr}{t:TA}(D:Def X.prog X.w X.K X.mg X.base x k ps sp)(hr:aI k X.A)(hg:Gl X x)(ha:PA X (e::es) t)
  (hdb:(x==("__debug__":Str))=false:=by decide) (he:starEach (e::es) X.env=(false,eval e X.env)::starEach es X.env:=by rfl) (hpl:(backTo pos (starEach es X.env)).any (·.1)=false:=by rfl) :
  PE X (.Call (.Name x p) (e::es) [] pos) (fM sp [] E0 t):=by
 obtain⟨f,fd,hm,hk,hb,F⟩:=D
 exact pv F hr hg hm hk hb .nil tR ha hdb he hpl
structure ah(K:XC)(mg:Str→Option Value)(x:Str)(st:Stmt)(ps:List Str):Prop where
 ex:∃ f fd,Fun K x x st f fd∧mg x=some (.ref f)∧cg K fd ps []
theorem ah.mk'{P:Program}{w:World}{K:XC}{mg:Str→Option Value}{base:Heap}{x:Str}{st:Stmt}{N ps:List Str}{k:Nat}{sp:Sp}(F:ah K mg x st ps)(S:aj N ps (ag st))(len:∀ vs H Q E,sp vs H Q E→vs.length=ps.length)
  (hbody:∀ (f:Addr) (cdv:Value) (A:Around) (outer:List Env) (s:Shared) (H:Hp) (vs:List V) (Q:VK) (E:XK),aI k (A.deeper (envOfC x (ag st) s.heap.objs.size f cdv))→sp vs H Q E→
   ∃ t,PSs (jo CX0 P w K mg base N x (ag st) f cdv A outer s H E).nox (bg st) t∧t {nx:=fun _ H'=>Q .non H',rt:=Q} (b8 N vs) H):Def P w K mg base x (k+1) ps sp:=by
 obtain⟨f,fd,Fn,hm,hb⟩:=F.ex
 exact⟨f,fd,hm,Fn.kp,hb,Fn.ok S len (hbody f)⟩
theorem Ak{X:Cx}:∀ v s,¬ (X.nox).xe v s:=fun _ _ z=>z
def ax(p:Addr)(H H':Hp):Prop:=∀ b o,b≠p→H b=some o→H' b=some o
theorem ax.trans{p:Addr}{H H1 H2:Hp}(a:ax p H H1)(b:ax p H1 H2):ax p H H2:=fun c o n h=>b c o n (a c o n h)
theorem ax.refl(p:Addr)(H:Hp):ax p H H:=fun _ _ _ h=>h
theorem ax.upd(p:Addr)(H:Hp)(o:HO):ax p H (upd H p o):=fun b u n h=>by rw [ac n]; exact h
theorem ad{H:Hp}{p:Addr}(h:H p=none)(o:HO):Same H (upd H p o):=fun b u e=>by rw [ac (ae e h)]; exact e
theorem Same.x{p:Addr}{H H':Hp}(a:Same H H'):ax p H H':=fun b o _ h=>a b o h
end
theorem ax.same{p:Addr}{H H1 H2:Hp}(a:ax p H H1)(b:Same H1 H2):ax p H H2:=fun c o n h=>b c o (a c o n h)
theorem ax.free{p:Addr}{H H':Hp}(e:ax p H H'){l:Addr}(n:l≠p)(h:H' l=none):H l=none:=by
 cases q:H l with
 | none=>rfl
 | some o=>rw [e l o n q] at h; cases h
theorem aK{α:Type}{xs:List α}{i:Int}{x:α}(h0:0≤i)(h:xs[i.toNat]? = some x):atI xs i=some x:=by
 have:=gj h
 rwa [Int.toNat_of_nonneg h0] at this
theorem zU{n:Nat}{i:Int}(h0:0≤i)(h1:i<n):seqIndex? i n=some i.toNat:=by
 unfold seqIndex?
 simp [show ¬ (i<0) by omega,h0,h1]
structure oP(n:Nat)(N' N:List Str)(osc scope:Scope):Prop where
 kind:scope.kind=.function
 names:∀ x∈scope.names,x.2=.local→scope.names.lookup x.1=some .local
 cell:∀ x∈scope.names,x.2≠.cell
 free:∀ x∈scope.names,x.2=.free→osc.names.lookup x.1=some .cell∨osc.names.lookup x.1=some .free
 nd:N'.Nodup
 len:N'.length=n+N.length
 look:uJ n N' N scope.names=true
theorem oP.at{X:Cx}{n:Nat}{N':List Str}{scope:Scope}(h:oP n N' X.N X.env.scope scope):aE n N' X scope:=⟨h.kind,h.names,h.cell,h.free,h.nd,h.len,h.look⟩
end L2
set_option maxHeartbeats 4000000
namespace L2
open PySem PySem.Spec PyProof.Rows
mutual
inductive RdV(R:Addr→Prop)(H:Hp):V→PyData→Prop where
 | non:RdV R H .non .none
 | bl (b:Bool):RdV R H (.bl b) (.bool b)
 | int (i:Int):RdV R H (.int i) (.int i)
 | str (x:Str):RdV R H (.str x) (.str x)
 | lst {a:Addr} {xs:List V} {ds:List PyData}:R a→H a=some (.lst xs)→RdA R H xs ds→RdV R H (.ref a) (.list ds)
 | tup {a:Addr} {xs:List V} {ds:List PyData}:R a→H a=some (.tup xs)→RdA R H xs ds→RdV R H (.ref a) (.tuple ds)
inductive RdA(R:Addr→Prop)(H:Hp):List V→List PyData→Prop where
 | nil:RdA R H [] []
 | cons {x:V} {xs:List V} {d:PyData} {ds:List PyData}:RdV R H x d→RdA R H xs ds→RdA R H (x::xs) (d::ds)
end
mutual
theorem RdV.mono{R R':Addr→Prop}{H H':Hp}(hR:∀ a,R a→R' a)(hH:∀ a o,R a→H a=some o→H' a=some o):∀ {x:V} {d:PyData},RdV R H x d→RdV R' H' x d
 | _,_,.non=>.non
 | _,_,.bl b=>.bl b
 | _,_,.int i=>.int i
 | _,_,.str x=>.str x
 | _,_,.lst r e z=>.lst (hR _ r) (hH _ _ r e) (RdA.mono hR hH z)
 | _,_,.tup r e z=>.tup (hR _ r) (hH _ _ r e) (RdA.mono hR hH z)
theorem RdA.mono{R R':Addr→Prop}{H H':Hp}(hR:∀ a,R a→R' a)(hH:∀ a o,R a→H a=some o→H' a=some o):∀ {xs:List V} {ds:List PyData},RdA R H xs ds→RdA R' H' xs ds
 | _,_,.nil=>.nil
 | _,_,.cons a b=>.cons (RdV.mono hR hH a) (RdA.mono hR hH b)
end
mutual
def cP:PyData→Bool
 | .list _=>false
 | .tuple ds=>bh ds
 | _=>true
def bh:List PyData→Bool
 | []=>true
 | d::r=>cP d&&bh r
end
mutual
theorem RdV.monoT{R R':Addr→Prop}{H H':Hp}(hR:∀ a,R a→R' a)(hH:∀ a xs,H a=some (.tup xs)→H' a=some (.tup xs)):∀ {x:V} {d:PyData},cP d=true→RdV R H x d→RdV R' H' x d
 | _,_,_,.non=>.non
 | _,_,_,.bl b=>.bl b
 | _,_,_,.int i=>.int i
 | _,_,_,.str x=>.str x
 | _,_,h,.lst r e z=>by simp [cP] at h
 | _,_,h,.tup r e z=>.tup (hR _ r) (hH _ _ e) (RdA.monoT hR hH (by simpa [cP] using h) z)
theorem RdA.monoT{R R':Addr→Prop}{H H':Hp}(hR:∀ a,R a→R' a)(hH:∀ a xs,H a=some (.tup xs)→H' a=some (.tup xs)):∀ {xs:List V} {ds:List PyData},bh ds=true→RdA R H xs ds→RdA R' H' xs ds
 | _,_,_,.nil=>.nil
 | _,_,h,.cons a b=>by
  simp only [bh,YK] at h
  exact .cons (RdV.monoT hR hH h.1 a) (RdA.monoT hR hH h.2 b)
end
section
variable{R:Addr→Prop}{H H':Hp}{v:V}{xs ys:List V}{ds es:List PyData}{d:PyData}
theorem RdV.same(hs:Same H H')(h:RdV R H v d):RdV R H' v d:=h.mono (fun _ r=>r) fun a o _ e=>hs a o e
theorem RdA.same(hs:Same H H')(h:RdA R H xs ds):RdA R H' xs ds:=h.mono (fun _ r=>r) fun a o _ e=>hs a o e
theorem RdV.list_inv(h:RdV R H v (.list ds)):∃ a xs,v=.ref a∧R a∧H a=some (.lst xs)∧RdA R H xs ds:=by cases h with | lst r e z=>exact⟨_,_,rfl,r,e,z⟩
theorem RdV.tuple_inv(h:RdV R H v (.tuple ds)):∃ a xs,v=.ref a∧R a∧H a=some (.tup xs)∧RdA R H xs ds:=by cases h with | tup r e z=>exact⟨_,_,rfl,r,e,z⟩
theorem RdV.str_inv{x:Str}(h:RdV R H v (.str x)):v=.str x:=by cases h; rfl
theorem RdA.length:∀ {xs:List V} {ds:List PyData},RdA R H xs ds→xs.length=ds.length
 | _,_,.nil=>rfl
 | _,_,.cons _ t=>by rw [Ys,Ys,RdA.length t]
theorem RdA.getV:∀ {xs:List V} {ds:List PyData} {i:Nat} {x:V},RdA R H xs ds→xs[i]? = some x→∃ d,ds[i]? = some d∧RdV R H x d
 | _,_,_,_,.nil,h=>by simp at h
 | _,_,0,_,.cons a t,h=>by simp at h; subst h; exact⟨_,rfl,a⟩
 | _,_,i+1,_,.cons a t,h=>by simpa using RdA.getV (i:=i) t (by simpa using h)
theorem RdA.append:∀ {xs ys:List V} {ds es:List PyData},RdA R H xs ds→RdA R H ys es→RdA R H (xs++ys) (ds++es)
 | _,_,_,_,.nil,h=>h
 | _,_,_,_,.cons a t,h=>.cons a (RdA.append t h)
theorem RdA.snoc(h:RdA R H xs ds)(a:RdV R H v d):RdA R H (xs++[v]) (ds++[d]):=h.append (.cons a .nil)
theorem RdA.strs:∀ ws:List Str,RdA R H (ws.map V.str) (ws.map PyData.str)
 | []=>.nil
 | x::r=>.cons (.str x) (RdA.strs r)
theorem RdA.strs_inv:∀ {ws:List Str} {xs:List V},RdA R H xs (ws.map PyData.str)→xs=ws.map V.str
 | [],_,.nil=>rfl
 | _::_,_,.cons a t=>by rw [RdV.str_inv a,RdA.strs_inv t]; rfl
theorem RdA.two(h:RdA R H xs [d,e]):∃ x y,xs=[x,y]∧RdV R H x d∧RdV R H y e:=by
 cases h with | cons a t=>cases t with | cons b t=>cases t; exact⟨_,_,rfl,a,b⟩
theorem RdA.three{f:PyData}(h:RdA R H xs [d,e,f]):∃ x y z,xs=[x,y,z]∧RdV R H x d∧RdV R H y e∧RdV R H z f:=by
 cases h with | cons a t=>cases t with | cons b t=>cases t with | cons c t=>cases t; exact⟨_,_,_,rfl,a,b,c⟩
end
inductive eN:List Expr→List Str→Prop where
 | nil:eN [] []
 | cons {x:Str} {j:Nat} {pos:Pos} {es:List Expr} {ws:List Str}:eN es ws→eN (.Constant (.str x) j pos::es) (x::ws)
def xJ(ws:List Str):TA:=fun _ H Q=>Q (ws.map V.str) H
theorem wx{X:Cx}{es:List Expr}{ws:List Str}(h:eN es ws):PA X es (xJ ws):=by
 induction h with
 | nil=>exact be
 | cons h ih=>
  rename_i x j pos es ws
  intro pos' pins s σ H Q I hq
  exact aw (te:=tC (.str x)) (t:=xJ ws) eh ih rfl pos' pins s σ H Q I hq
section
variable{X:Cx}
theorem dn{sc:Scope}{x:Str}(h:sc.names.lookup x=some .local):Vis sc x:=.inl h
theorem AH{sc:Scope}{x:Str}(h:sc.names.lookup x=some .cell):Vis sc x:=.inr (.inl h)
theorem zH{scope:Scope}{env:Env}{x:Str}(h:scope.names.lookup x=some .free):Vis (relabel scope env) x:=by
 have e:(relabel scope env).names.lookup x=_:=bC
 rw [h] at e
 simp only [Y0] at e
 split at e
 ·exact .inr (.inl e)
 ·exact .inr (.inr e)
theorem zG{scope:Scope}{env:Env}{x:Str}(h:scope.names.lookup x=some .local):Vis (relabel scope env) x:=.inl (lookup_relabel_local h)
theorem A1{scope:Scope}{env:Env}{x:Str}(h:scope.names.lookup x=some .local):Loc (relabel scope env) x:=.inl (lookup_relabel_local h)
theorem glO{scope:Scope}{env:Env}{x:Str}(h:scope.names.lookup x=some .globalImplicit):(relabel scope env).names.lookup x=some .globalImplicit:=by
 have e:(relabel scope env).names.lookup x=_:=bC
 rw [h] at e
 exact e
theorem pq(i:Nat){x:Str}{pos:Pos}(hv:Vis X.env.scope x)(hd:(x==("__debug__":Str))=false)(hcd:(x==("__classdict__":Str))=false)(hN:X.N[i]? = some x:=by rfl):PE X (.Name x pos) (tVar i):=tE hN hv hd hcd
end
section
variable{P:Program}{w:World}{A:Around}{E:Value→Shared→Prop}
theorem mI{it l:Addr}{its:Array Value}(ne:l≠it)(n:Nat):∀ (i:Nat) (s:Shared) (Q:List Value→Shared→Prop),s.heap.IsListIter it l i→s.heap.IsList l its→i+n≤its.size→
  (∀ h',h'.IsListIter it l (i+n)→YX it s.heap h'→Q ((its.toList.drop i).take n) {s with heap:=h'})→wpAny (model P w) A (draw (.ref it) n) Q E s:=by
 induction n with
 | zero=>
  intro i s Q a _ _ q
  have q0:=q s.heap a (YX.refl ..)
  rw [List.take_zero] at q0
  exact Yf q0
 | succ n ih=>
  intro i s Q a b le q
  have lt:i<its.size:=by omega
  refine Yd (m:=pyNext (.ref it)) (wpAny_pyNext_list_item a b (x:=its[i]) (by simp [lt]) fun h1 a1 s1=>?_)
  refine Yd (wpAny_holding (ih (i+1) _ _ a1 (b.extBut s1.extBut ne) (by omega) fun h2 a2 s2=>?_))
  refine Yf ?_
  have q2:=q h2 (by rw [Nat.add_comm n 1,← Nat.add_assoc]; exact a2) (s1.trans s2)
  have e:its.toList.drop i=its[i]::its.toList.drop (i+1):=by simp [Xe,lt]
  rwa [e,Xz] at q2
theorem mZ{s:Shared}{l:Addr}{its:Array Value}{ts:List (Bool×(Value→Sem Unit))}{Q:Unit→Shared→Prop}(hh:A.handled=none)(hl:s.heap.IsList l its)(hn:ts.length=its.size)(hs:ts.findIdx? (·.1)=none)
  (q:∀ h',Heap.ExtBut s.heap.objs.size s.heap h'→wpAny (model P w) A (assignInOrder (ts.map (·.2)) its.toList) Q E {s with heap:=h'}):wpAny (model P w) A (unpack (.ref l) ts) Q E s:=by
 have ne:l≠s.heap.objs.size:=by
  obtain⟨o,e,_⟩:=hl
  exact Yu (Yi e)
 unfold unpack
 rw [hs,hn]
 refine Yd (wpAny_holding ?_)
 unfold unpackItems notIterableAtAll
 refine Yd (Yd (wpAny_specialOf hl.typeIs slot_list_iter.lookup (Yf ?_)))
 simp only [YU,if_false]
 refine Yd (wpAny_holding (wpAny_pyIter_list hl ?_))
 refine Yd (wpAny_holding (mI ne its.size 0 _ _ ⟨_,Yo _ rfl,rfl,rfl⟩ (hl.push _) (by omega) fun h1 a1 s1=>?_))
 have all:(its.toList.drop 0).take its.size=its.toList:=by simp [YF]
 rw [all,if_neg (by simp)]
 refine Yd (wpAny_holding (wpAny_pyNext_list_end hh a1 ((hl.push _).extBut s1.extBut ne) (by simp) fun h2 e2=>?_))
 simp only [Option.isSome_none,YU,if_false]
 exact Yf (q h2 fun b o nb e=>e2 b o nb (s1.extBut b o nb (Ye _ e)))
end
section
variable{X:Cx}{pos:Pos}
inductive gSeq(K:XC)(n:Nat)(t:TGs)(v:V)(σ:St)(H:Hp)(Q:St→Hp→Prop):Prop | mk (a xs) (_:v=.ref a) (_:(SqL K H a xs∨SqT K H a xs)) (_:xs.length=n) (_:t xs σ H Q)
theorem yH{es:List Expr}{k:Nat}{t:TGs}{n:Nat}(hc:X.calm=true)(h:PGs X es t)(hn:(assignEach es X.env).length=n:=by rfl)(hst:(assignEach es X.env).findIdx? (·.1)=none:=by rfl):PG X (.Tuple es k pos) (gSeq X.K n t):=by
 intro pins s σ H v u Q I r hw
 obtain⟨a,xs,rfl,hq | hq,hl,hw⟩:=hw
 ·cases r
  obtain⟨its,rv,pl,hz⟩:=I.list hq
  rw [assign_Tuple]
  refine Yd (wpAny_standAt (mZ (I.ok.hd hc) pl.isList (by simp [hn,← hl,rv.length]) hst fun h' hx=>?_))
  have I1:Inv X pins σ H {s with heap:=h'}:=I.kept (t':=s.toks) fun b o e=>hx b o (Yu (Yi e)) e
  exact h pins _ σ H xs _ Q I1 (by simpa using rv) hw
 ·exact nR hc h hn hst pins s σ H _ u Q I r ⟨a,xs,rfl,hq,hl,hw⟩
end
structure dm(X:Cx)(pins:List (Addr×Obj))(H:Hp)(b:Addr):Prop where
 un:H b=none
 new:b∈X.ex∨X.s₀.heap.get? b=none
 loc:b≠X.env.locals
 cel:∀ x c,X.env.cells.lookup x=some c→c≠b
 pin:∀ p∈X.pn++pins,p.1≠b
section
variable{X:Cx}{pins:List (Addr×Obj)}{σ:List (Option V)}{H:Hp}{s:Shared}{h':Heap}
theorem Inv.fly{t':Nat}{S:List Addr}(I:Inv X pins σ H s)(hS:∀ b∈S,dm X pins H b)(kp:∀ b o,s.heap.get? b=some o→b∉S→b∉frs X.stack→h'.get? b=some o)
  (sl:∀ b o,s.heap.get? b=some o→b∈frs X.stack→∃ w,h'.get? b=some {o with slots:=w}):Inv X pins σ H {s with heap:=h',toks:=t'}:=by
 have nS:∀ b u,H b=some u→b∉S:=fun b u e z=>by rw [(hS b z).un] at e; cases e
 have nF:∀ b u,H b=some u→b∉frs X.stack:=fun b u e z=>by rw [I.stkFree b z] at e; cases e
 have neL:∀ b o,X.s₀.heap.get? b=some o→b≠X.env.locals:=fun b o e=>Yu (YC (Yi e) I.ok.above)
 have neC:∀ b o,X.s₀.heap.get? b=some o→b∉X.ex→b∉S:=fun b o e hx hb=>by
  rcases(hS b hb).new with z | z
  ·exact hx z
  ·rw [z] at e; cases e
 have stkL:∀ b,b∈frs X.stack→b≠X.env.locals→b∈X.fs:=fun b hb n=>(Yr.mp (I.stkSub b hb)).elim (fun z=>absurd z n) id
 have any:∀ b o,s.heap.get? b=some o→b∉S→∃ w,h'.get? b=some {o with slots:=w}:=fun b o e n=>by
  by_cases hb:b∈frs X.stack
  ·exact sl b o e hb
  ·exact⟨o.slots,kp b o e n hb⟩
 have cellK:∀ x c,X.env.cells.lookup x=some c→∀ v,s.heap.IsCell c v→h'.IsCell c v:=fun x c e v ⟨o,ho,hd⟩=>by
  obtain⟨w,q⟩:=any c o ho fun z=>(hS c z).cel x c e rfl
  exact⟨_,q,hd⟩
 refine⟨I.ok,I.os,I.bare,⟨fun b o e n hb hx=>?_,fun b o e n hb hx=>?_,fun b o e n hx=>I.base.free b o e n hx,fun b o e hx=>?_,I.base.tups,I.base.frzs,I.base.tbls⟩,?_,fun x c e=>?_,I.free,I.freeC,fun p hp=>?_,fun b u e=>?_,I.len⟩
 ·exact kp b o (I.base.keep b o e n hb hx) (neC b o e hx) fun z=>hb (stkL b z (neL b o e))
 ·obtain⟨w,e1⟩:=I.base.slot b o e n hb hx
  obtain⟨w',e2⟩:=any b _ e1 (neC b o e hx)
  exact⟨w',e2⟩
 ·obtain⟨o',e1⟩:=I.base.there b o e hx
  obtain⟨w,e2⟩:=any b o' e1 (neC b o e hx)
  exact⟨_,e2⟩
 ·obtain⟨m,⟨o,es,ep,ho,r⟩,hl⟩:=I.loc
  obtain⟨w,q⟩:=any _ o ho fun z=>(hS _ z).loc rfl
  refine⟨m,⟨_,es,ep,q,r⟩,fun i x v e1 e2 e3=>?_⟩
  obtain⟨u,r,l⟩:=hl i x v e1 e2 e3
  refine⟨u,r,?_⟩
  rcases l with l | ⟨k,c,e,z⟩
  ·exact .inl l
  ·exact .inr ⟨k,c,e,cellK x c e _ z⟩
 ·obtain⟨v,z⟩:=I.cell x c e
  exact⟨v,cellK x c e v z⟩
 ·obtain⟨e,n,ne,nf,d⟩:=I.pin p hp
  exact⟨kp p.1 p.2 e (fun z=>(hS p.1 z).pin p hp rfl) fun z=>nf (stkL _ z ne),n,ne,nf,d⟩
 ·refine(I.hok b u e).stay (fun c v hc q=>?_) (fun _ q=>q) fun _ _ q=>q
  rcases hc with z | z
  ·subst z; exact kp _ v q (nS _ u e) (nF _ u e)
  ·exact kp c v q (nS c _ z) (nF c _ z)
end
inductive Exc(h:Heap)(a:Addr)(cls:Value)(dx:Option Addr):Option Value→List Addr→Prop where
 | made {oe:Obj} {vs:Array Value} {a0:Value}:h.get? a=some oe→oe.cls=cls→oe.dict=dx→oe.data=.fields vs→vs[0]? = some a0→vs[1]? = some .none→Exc h a cls dx none [a]
 | ent {oe oT:Obj} {vs ts:Array Value} {a0 fl:Value} {T:Addr}:h.get? a=some oe→oe.cls=cls→oe.dict=dx→oe.data=.fields vs→vs[0]? = some a0→vs[1]? = some (.ref T)→T≠a→h.get? T=some oT→oT.data=.fields ts→ts[3]? = some fl→Exc h a cls dx (some fl) [a,T]
def XEk(p:Option Value→Addr→Prop)(X:Cx)(E:XK):Value→Shared→Prop:=fun e s=>∃ (a L:Addr) (cls:Value) (dx:Option Addr) (σ:St) (H:Hp) (fl:Option Value) (S:List Addr) (env0:Env) (rest:List Env),e=.ref a∧X.stack=env0::rest∧env0.frame=some L∧X.env.frame=some L∧
 Inv X [] σ H s∧Exc s.heap a cls dx fl S∧p fl L∧(∀ b∈S,dm X [] H b)∧E cls dx H
def XE:Cx→XK→Value→Shared→Prop:=XEk fun _ _=>True
def bI:Cx→XK→Value→Shared→Prop:=XEk fun fl L=>fl=some (rawInt L)
def vC:Cx→XK→Value→Shared→Prop:=XEk fun fl L=>fl=some .none
theorem XEk.imp{p q:Option Value→Addr→Prop}{X:Cx}{E:XK}{e:Value}{s:Shared}(h:XEk p X E e s)(k:∀ fl L,p fl L→q fl L):XEk q X E e s:=by
 obtain⟨a,L,cls,dx,σ,H,fl,S,env0,rest,h1,h2,h3,h4,h5,h6,h7,h8⟩:=h
 exact⟨a,L,cls,dx,σ,H,fl,S,env0,rest,h1,h2,h3,h4,h5,h6,k _ _ h7,h8⟩
theorem bI.xe{X:Cx}{E:XK}{e:Value}{s:Shared}(h:bI X E e s):XE X E e s:=XEk.imp h fun _ _ _=>trivial
theorem g8{e:Value}{env env':Env}(h:env.frame=env'.frame):noteFrame e env=noteFrame e env':=by
 unfold noteFrame PySem.frameOf
 rw [h]
section
variable{P:Program}{w:World}{H:Hp}{h:Heap}{a:Addr}{o:HO}
theorem aB.there(x:aB P w H h a o):∃ ob,h.get? a=some ob:=by
 induction o with
 | lst xs=>obtain⟨_,_,_,_,e⟩:=x; exact⟨_,e⟩
 | tup xs=>obtain⟨_,_,_,o,e,_⟩:=x; exact⟨_,e⟩
 | dK kvs=>obtain⟨_,_,_,_,o,_,_,e,_⟩:=x; exact⟨_,e⟩
 | dT kvs=>obtain⟨_,_,_,_,o,_,_,e,_⟩:=x; exact⟨_,e⟩
 | set S n=>obtain⟨o,_,_,_,e,_⟩:=x; exact⟨_,e⟩
 | ins C dx fs=>obtain⟨_,_,_,e,_⟩:=x; exact⟨_,e⟩
 | own y=>exact x
 | xd fs=>obtain⟨_,⟨o,_,_,e,_⟩,_⟩:=x; exact⟨_,e⟩
 | met f y=>exact⟨_,x⟩
 | rng lo hi=>obtain⟨_,_,_,e⟩:=x; exact⟨_,e⟩
 | frz o u ih=>exact⟨_,x.1⟩
 | tbl ps=>exact⟨_,x⟩
 | ext φ=>exact x.2.1
end
section
variable{X:Cx}{pins:List (Addr×Obj)}{σ:List (Option V)}{H:Hp}{s:Shared}{h':Heap}
theorem Inv.loose{b:Addr}(I:Inv X pins σ H s)(e:s.heap.get? b=none):dm X pins H b:=by
 have no:∀ {c:Addr} {o:Obj},s.heap.get? c=some o→c≠b:=fun q z=>by rw [z,e] at q; cases q
 refine⟨?_,?_,?_,fun x c hc=>?_,fun p hp=>no (I.pin p hp).1⟩
 ·cases q:H b with
  | none=>rfl
  | some o=>
   obtain⟨ob,z⟩:=aB.there (I.hok b o q)
   exact absurd rfl (no z)
 ·by_cases hx:b∈X.ex
  ·exact .inl hx
  ·refine .inr ?_
   cases q:X.s₀.heap.get? b with
   | none=>rfl
   | some o=>
    obtain⟨o',z⟩:=I.base.there b o q hx
    exact absurd rfl (no z)
 ·obtain⟨m,⟨o,_,_,ho,_⟩,_⟩:=I.loc
  exact(no ho).symm
 ·obtain⟨v,o,ho,_⟩:=I.cell x c hc
  exact no ho
theorem Be{M:Model}{A:Around}{EE:Value→Shared→Prop}{s:Shared}{g:Heap}{ev:Env}{outer:List Env}{L a:Addr}{oe:Obj}{vs:Array Value}{head:Value}{nx:Bool}{Q:Unit→Shared→Prop}
  (hfr:A.frames=some (ev::outer)) (hl:s.heap.FunFrames g (ev::outer)) (hf:ev.frame=some L) (he:s.heap.get? a=some oe) (hd:oe.data=.fields vs) (hz:1<vs.size)
  (k:∀ (h':Heap) (T:Addr) (ts:Array Value),(∀ b o,s.heap.get? b=some o→b≠a→b∉frs (ev::outer)→h'.get? b=some o)→(∀ b o,s.heap.get? b=some o→b∈frs (ev::outer)→∃ w,h'.get? b=some {o with slots:=w})→
   h'.get? a=some (Obj.mapFields (·.setIfInBounds 1 (.ref T)) oe)→s.heap.get? T=none→h'.get? T=some {cls:=.type "traceback",data:=.fields ts}→ts[3]? = some (rawInt L)→Q () {s with heap:=h'}) :
  wpAny M A (do let f ← frameOf ev; let pl ← entryPlaceOf L nx; let b ← EntryCells.newEntry head f .none (rawInt L) .none pl; setField (.ref a) 1 b) Q EE s:=by
 have na:a∉frs (ev::outer):=fun m=>by
  obtain⟨_,o,q,nf⟩:=hl.mem m
  rw [he] at q
  cases q
  exact nf vs hd
 refine Yd (wpAny_frameOf_fun hfr hl hf fun g1 sl=>Yd (wpAny_entryPlaceOf fun pl ip=>?_))
 unfold EntryCells.newEntry newFields
 refine Yd (wpAny_newObj_type ?_ (ip.sizeOk5 _ _ _ _ _))
 have e1:g1.get? a=some oe:=by rw [sl.2.1 a na]; exact he
 refine wpAny_setField (Ye _ e1) hd hz ?_
 have lt:=Yi e1
 have oth:∀ (u:Obj) (b:Addr),b≠a→((g1.push u).update a (Obj.mapFields (·.setIfInBounds 1 (Value.ref g1.objs.size)))).get? b=(g1.push u).get? b:=fun u b n=>Xn _ _ (Ne.symm n)
 have nw:s.heap.get? g1.objs.size=none:=by
  cases q:s.heap.get? g1.objs.size with
  | none=>rfl
  | some o=>
   obtain⟨w,z⟩:=sl.2.2 _ o q
   exact absurd (Yi z) (Nat.lt_irrefl _)
 refine k _ g1.objs.size _ (fun b o q n nf=>?_) (fun b o q m=>?_) (Xq _ (Ye _ e1) (Obj.isFreed_of_fields (Obj.data_mapFields hd _))) nw ((oth _ _ (Xl lt)).trans (Yo _ rfl)) ?_
 ·rw [oth _ _ n]
  exact Ye _ ((sl.2.1 b nf).trans q)
 ·obtain⟨w,z⟩:=sl.2.2 b o q
  exact⟨w,by rw [oth _ _ fun y=>na (y▸m)]; exact Ye _ z⟩
 ·first
   | (simp; done)
   | (rcases ip with rfl | ⟨_,_,_,_,_,_,_,rfl⟩ <;> simp)
theorem XE.note{E:XK}{e:Value}{EE:Value→Shared→Prop}(h:XE X E e s):wpAny (model X.prog X.w) X.A (noteFrame e X.env) (fun _ s'=>bI X E e s') EE s:=by
 obtain⟨a,L,cls,dx,σ,H,fl,S,env0,rest,rfl,hs,hf0,hf,I,ex,hp,hS,hE⟩:=h
 rw [g8 (hf.trans hf0.symm)]
 have hfr:X.A.frames=some (env0::rest):=by rw [I.ok.frames,hs]
 have put:∀ {s1:Shared} {oe:Obj} {vs:Array Value} {a0 head:Value} {nx:Bool},Inv X [] σ H s1→a∈S→s1.heap.get? a=some oe→oe.cls=cls→oe.dict=dx→oe.data=.fields vs→1<vs.size→vs[0]? = some a0→
   wpAny (model X.prog X.w) X.A (do let f ← frameOf env0; let pl ← entryPlaceOf L nx; let b ← EntryCells.newEntry head f .none (rawInt L) .none pl; setField (.ref a) 1 b) (fun _ s'=>bI X E (.ref a) s') EE s1:=by
  intro s1 oe vs a0 head nx I1 ha he hc hx hd hz h0
  have hl:s1.heap.FunFrames X.base (env0::rest):=by rw [← hs]; exact I1.stack
  refine Be hfr hl hf0 he hd hz fun h' T ts kp sl e1 nw eT e3=>?_
  rw [← hs] at kp sl
  have I2:Inv X [] σ H {s1 with heap:=h'}:=I1.fly (t':=s1.toks) hS (fun b o q n nf=>kp b o q (fun z=>n (z▸ha)) nf) sl
  have nT:T≠a:=fun z=>by rw [z,he] at nw; cases nw
  exact⟨a,L,cls,dx,σ,H,_,[a,T],env0,rest,rfl,hs,hf0,hf,I2,.ent e1 ((Obj.cls_mapFields _ _).trans hc) (by rw [← hx]; unfold Obj.mapFields; split <;> rfl) (Obj.data_mapFields hd _) (by rw [Array.getElem?_setIfInBounds_ne (by decide)]; exact h0) (by simp [hz]) nT eT rfl e3,rfl,fun b hb=>by
   rcases Yr.mp hb with rfl | hb
   ·exact hS _ ha
   ·rw [Yp.mp hb]; exact I1.loose nw,hE⟩
 cases ex with
 | made he hc hx hd h0 h1=>
  unfold noteFrame
  simp only [hf0]
  refine Yd (wpAny_field he hd h1 ?_)
  rw [if_neg (by decide)]
  exact put I (by simp) he hc hx hd (Xr.mp h1).1 h0
 | @ent oe oT vs ts a0 fl T he hc hx hd h0 h1 hTa hT hdT h3=>
  by_cases hb:(fl==rawInt L)=true
  ·obtain rfl:=eq_of_beq hb
   exact wpAny_noteFrame_againW (base:=PySem.W.hideAll s.heap [T]) hf0 ⟨oe,vs,T,oT,ts,he,⟨hc,h0⟩,hd,h1,PySem.W.hideAll_none _ (by simp),hTa,hT,hdT,h3⟩ ⟨a,L,cls,dx,σ,H,_,_,env0,rest,rfl,hs,hf0,hf,I,.ent he hc hx hd h0 h1 hTa hT hdT h3,rfl,hS,hE⟩
  ·have h3s:3<ts.size:=(Xr.mp h3).1
   unfold noteFrame
   simp only [hf0]
   refine Yd (wpAny_field he hd h1 ?_)
   rw [if_pos (show (Value.ref T != Value.none)=true from by simp)]
   refine Yd (wpAny_field hT hdT h3 ?_)
   rw [if_neg hb]
   refine Yd (wpAny_setField hT hdT h3s ?_)
   have other:∀ b,b≠T→(s.heap.update T (Obj.mapFields (·.setIfInBounds 3 Value.none))).get? b=s.heap.get? b:=fun b n=>Xn _ _ (Ne.symm n)
   have nT:∀ b∈frs X.stack,b≠T:=fun b hb z=>by
    obtain⟨_,o',e',nf⟩:=I.stack.mem hb
    rw [z,hT] at e'; cases e'
    exact nf ts hdT
   have I1:=I.fly (t':=s.toks) (h':=s.heap.update T (Obj.mapFields (·.setIfInBounds 3 Value.none))) hS (fun b o q n _=>by rw [other b (fun z=>n (by simp [z]))]; exact q) fun b o q hb=>⟨o.slots,by rw [other b (nT b hb)]; exact q⟩
   exact put I1 (by simp) ((other a (Ne.symm hTa)).trans he) hc hx hd (Xr.mp h1).1 h0
end
section
variable{X:Cx}{E:XK}{e:Value}{s:Shared}{EE:Value→Shared→Prop}{M:Model}
theorem XEk.setFl{p:Option Value→Addr→Prop}{A:Around}{f:Option Addr}(h:XEk p X E e s)(hp:∀ fl L,p fl L→fl≠none):
  wpAny M A (setFlight e f) (fun _ s'=>XEk (fun fl _=>fl=some (f.elim Value.none fun f=>rawInt f)) X E e s') EE s:=by
 obtain⟨a,L,cls,dx,σ,H,fl,S,env0,rest,rfl,hs,hf0,hf,I,ex,hp',hS,hE⟩:=h
 cases ex with
 | made=>exact absurd rfl (hp _ _ hp')
 | @ent oe oT vs ts a0 fl T he hc hx hd h0 h1 hTa hT hdT h3=>
  have h3s:3<ts.size:=(Xr.mp h3).1
  unfold setFlight
  refine Yd (wpAny_field he hd h1 ?_)
  rw [if_pos (show (Value.ref T != Value.none)=true from by simp)]
  refine wpAny_setField hT hdT h3s ?_
  have other:∀ b,b≠T→(s.heap.update T (Obj.mapFields (·.setIfInBounds 3 (f.elim Value.none fun f=>rawInt f)))).get? b=s.heap.get? b:=fun b n=>Xn _ _ (Ne.symm n)
  have self:=Xq (Obj.mapFields (·.setIfInBounds 3 (f.elim Value.none fun f=>rawInt f))) hT (Obj.isFreed_of_fields (Obj.data_mapFields hdT _))
  have I':=I.fly (t':=s.toks) (h':=s.heap.update T (Obj.mapFields (·.setIfInBounds 3 (f.elim Value.none fun f=>rawInt f)))) hS (fun b o q n _=>by rw [other b (fun z=>n (by simp [z]))]; exact q) fun b o q hb=>by
   have n:b≠T:=fun z=>by
    obtain⟨_,o',e',nf⟩:=I.stack.mem hb
    rw [z,hT] at e'; cases e'
    exact nf ts hdT
   exact⟨o.slots,by rw [other b n]; exact q⟩
  exact⟨a,L,cls,dx,σ,H,_,_,env0,rest,rfl,hs,hf0,hf,I',.ent ((other a (Ne.symm hTa)).trans he) hc hx hd h0 h1 hTa self (Obj.data_mapFields hdT _) (by simp [h3s]),rfl,hS,hE⟩
theorem bI.land{A:Around}(h:bI X E e s):wpAny M A (setFlight e none) (fun _ s'=>vC X E e s') EE s:=
 Ym (XEk.setFl (f:=none) h fun fl L z=>by rw [z]; simp) (fun _ _ z=>z) fun _ _ z=>z
theorem vC.land{A:Around}(h:vC X E e s):wpAny M A (setFlight e none) (fun _ s'=>vC X E e s') EE s:=
 Ym (XEk.setFl (f:=none) h fun fl L z=>by rw [z]; simp) (fun _ _ z=>z) fun _ _ z=>z
theorem bI.hold{A:Around}{env:Env}(hfr:env.frame=X.env.frame)(h:bI X E e s):wpAny M A (setFlight e env.frame) (fun _ s'=>bI X E e s') EE s:=by
 obtain⟨a,L,_,_,_,_,_,_,_,_,_,_,_,hf,_⟩:=id h
 rw [hfr,hf]
 refine Ym (XEk.setFl (f:=some L) h fun fl L z=>by rw [z]; simp) (fun _ s' z=>?_) fun _ _ z=>z
 obtain⟨a',L',cls,dx,σ,H,fl,S,env0,rest,h1,h2,h3,h4,h5,h6,h7,h8⟩:=z
 obtain rfl:L=L':=Option.some.inj (hf.symm.trans h4)
 exact⟨a',L,cls,dx,σ,H,fl,S,env0,rest,h1,h2,h3,h4,h5,h6,h7,h8⟩
theorem bI.hasTb{Q:Value→Shared→Prop}{A:Around}(h:bI X E e s)(q:∀ v,(v==Value.none)=false→Q v s):wpAny M A (field e 1) Q EE s:=by
 obtain⟨a,L,cls,dx,σ,H,fl,S,env0,rest,rfl,hs,hf0,hf,I,ex,hp',hS,hE⟩:=h
 cases ex with
 | made=>cases hp'
 | ent he hc hx hd h0 h1=>exact wpAny_field he hd h1 (q _ (by simp))
theorem bI.back{A:Around}{env:Env}(hfr:env.frame=X.env.frame)(h:bI X E e s):cameBackBy M A env (XE X E) e s:=by
 unfold cameBackBy
 refine Yd (h.hasTb fun v hv=>?_)
 rw [hv]
 simp only [YU,if_false]
 exact Ym (h.hold hfr) (fun _ _ z=>z.xe) fun _ _ z=>z
theorem bI.passAny{α:Type}{A:Around}{env:Env}{what:String}{Q:α→Shared→Prop}(h:bI X E e s)(k:∀ s',XE X E e s'→EE e s'):wpAny M A (PySem.passOn what e env:Sem α) Q EE s:=by
 unfold PySem.passOn
 refine Yd (h.hasTb fun v hv=>?_)
 rw [hv]
 simp only [YU,if_false]
 exact Yd (Ym (XEk.setFl (f:=env.frame) h fun fl L z=>by rw [z]; simp) (fun _ s' z=>wpAny_throw (k s' (XEk.imp z fun _ _ _=>trivial))) fun _ _ z=>z)
theorem jH:PassesOwn (model X.prog X.w) X.A X.env (XE X E):=fun e s h=>by
 unfold notedBy
 exact Ym h.note (fun _ s' z=>z.back rfl) fun _ _ z=>z
theorem XE.leave(h:XE X E e s):wpAny (model X.prog X.w) X.A (leaving X.env e) (fun _ s'=>vC X E e s') EE s:=by
 unfold leaving
 exact Yd (Ym h.note (fun _ s' z=>z.land) fun _ _ z=>z)
end
def CX1(P:Program)(w:World):CXT:=fun outer H s E e s'=>∃ (a:Addr) (cls:Value) (dx:Option Addr) (H':Hp) (S:List Addr),e=.ref a∧s'.os=s.os∧AllBare s'.gens∧Un (frs outer) [] H H' s.heap s'.heap∧HOk P w H' s'.heap∧Exc s'.heap a cls dx (some .none) S∧(∀ b∈S,H' b=none∧s.heap.get? b=none)∧E cls dx H'
def bY(X:Cx):Prop:=∃ (L:Addr) (env0:Env) (rest:List Env),X.stack=env0::rest∧env0.frame=some L∧X.env.frame=some L
abbrev Cx.exc(X:Cx)(E:XK):Cx:=X.wish (XE X E)
theorem wv{X:Cx}{E:XK}(fr:bY X):fE (CX1 X.prog X.w) (X.exc E) E:=by
 intro pins σ H s e s' I h
 obtain⟨a,cls,dx,H',S,rfl,ho,hb,un,hok,ex,hS,hE⟩:=h
 obtain⟨L,env0,rest,h1,h2,h3⟩:=fr
 have I0:Inv X pins σ H s:=I.unwish
 have I1:Inv X [] σ H s:=I0.pins_of fun p hp=>by simp at hp
 have I2:Inv X [] σ H' s':=I1.call' (ch:=[]) ho un hok hb fun b z=>by simp at z
 refine⟨a,L,cls,dx,σ,H',_,S,env0,rest,rfl,h1,h2,h3,I2,ex,trivial,fun b z=>?_,hE⟩
 obtain⟨u,n⟩:=hS b z
 obtain⟨_,l2,l3,l4,l5⟩:=I1.loose n
 exact⟨u,l2,l3,l4,l5⟩
theorem bq{CX:CXT}{P:Program}{w:World}{K:XC}{mg:Str→Option Value}{base:Heap}{N:List Str}{qual:Str}{scope:Scope}{f:Addr}{cd:Value}{A:Around}{outer:List Env}{s:Shared}{H:Hp}{E:XK}:bY (jo CX P w K mg base N qual scope f cd A outer s H E):=⟨_,_,_,rfl,rfl,rfl⟩
theorem Fun.okE{P:Program}{w:World}{K:XC}{mg:Str→Option Value}{base:Heap}{x qual:Str}{st:Stmt}{f:Addr}{fd:FuncData}{N ps:List Str}{k:Nat}{sp:Sp}(F:Fun K x qual st f fd)(S:aj N ps (ag st))(len:∀ vs H Q E,sp vs H Q E→vs.length=ps.length)
  (hbody:∀ (cdv:Value) (A:Around) (outer:List Env) (s:Shared) (H:Hp) (vs:List V) (Q:VK) (E:XK),aI k (A.deeper (envOfC qual (ag st) s.heap.objs.size f cdv))→sp vs H Q E→
   ∃ t,PSs ((jo (CX1 P w) P w K mg base N qual (ag st) f cdv A outer s H E).exc E) (bg st) t∧t {nx:=fun _ H'=>Q .non H',rt:=Q} (b8 N vs) H):cK P w K mg base (CX1 P w) (k+1) f fd ps sp:=by
 obtain⟨oc,od,kV,doc,pm,an,cdv,ct,osl,rfl,lk,hcd⟩:=F.ex
 refine xV lk hcd S len fun A outer s H vs Q E hr hsp=>?_
 obtain⟨t,h,q⟩:=hbody cdv A outer s H vs Q E hr hsp
 refine⟨t,fun pins s1 σ H1 D I hw=>?_,q⟩
 refine Ym (h pins s1 σ H1 D (I.wish _) hw) (fun fl s2 z=>z.unwish) fun e s2 z=>?_
 refine Ym z.leave (fun _ s3 z3=>?_) fun _ _ z=>z
 obtain⟨a,L,cls,dx,σ',H',fl,S',env0,rest,rfl,hs,hf0,hf,I',ex,hp',hS,hE⟩:=z3
 obtain rfl:fl=some .none:=hp'
 refine⟨a,cls,dx,H',S',rfl,I'.os,I'.bare,I'.base,I'.hok,ex,fun b hb=>⟨(hS b hb).un,?_⟩,hE⟩
 rcases(hS b hb).new with z | z
 ·exact absurd (show b∈([]:List Addr) from z) (by simp)
 ·exact z
abbrev uD:List Value:=[.type "ValueError",.type "Exception",.type "BaseException",.type "object"]
def cw(K:XC)(mg:Str→Option Value)(x:Str)(C:Addr):Prop:=∀ h:Heap,K.In h→OwnCls x C uD "ValueError.__new__" mg h
def yb(C:Addr)(E:XK)(t:TA):TS:=fun _ σ H=>t σ H fun vs H1=>vs.length≤sizeLine∧E (.ref C) none H1
theorem iP{X:Cx}{E:XK}{x:Str}{C:Addr}{np cpos pos:Pos}{e:Expr}{es:List Expr}{t:TA}(fr:bY X)(hc:X.calm=true)(O:cw X.K X.mg x C)(hg:Gl X x)(ha:PA (X.exc E) (e::es) t)
  (hdb:(x==("__debug__":Str))=false:=by decide) (he:starEach (e::es) X.env=(false,eval e X.env)::starEach es X.env:=by rfl) (hpl:(backTo cpos (starEach es X.env)).any (·.1)=false:=by rfl) :
  PS (X.exc E) (.Raise (some (.Call (.Name x np) (e::es) [] cpos)) none pos) (yb C E t):=by
 intro pins s σ H D I h
 have O0:=O X.base I.ok.mod.kin
 obtain⟨bm,N,nm,q,bs,hdct,sn,sub,ab,col,dd,k0,k1,k2,k3,k5,mN,hC,hN,hni,T⟩:=O0.obj
 refine wpAny_Raise_call_subU (C:=C) (bm:=bm) (nm:=nm) (q:=q) (N:=N) (bs:=bs) (hdct:=hdct) (sn:=sn) (sub:=sub) (ab:=ab) (col:=col) (dd:=dd) (k0:=k0) (k1:=k1) (k2:=k2) (k3:=k3) (k5:=k5) (mN:=mN)
  PySem.F.excBase_ValueError (by decide +kernel) PySem.F.excBase_ValueError (T.hasType (by decide +kernel)) (I.ok.hd hc) (by rw [show (X.exc E).env=X.env from rfl,he]; show (false||(backTo cpos (starEach es X.env)).any (·.1))=false; rw [hpl]; rfl) hni (eM I hg O0.bound ⟨rfl,?_⟩ hdb)
 have h1:=ha cpos pins s σ H _ I h
 rw [show (X.exc E).env=X.env from rfl,he] at h1 ⊢
 refine Calls.evalArgs_plain (Ym h1 (fun vs s2 z=>?_) fun _ _ z=>z)
 obtain⟨ws,H2,I2,rv,hl,hE⟩:=z
 have hk:∀ b o,X.base.get? b=some o→s2.heap.get? b=some o:=I2.bk
 refine⟨rfl,by rw [← rv.length]; exact hl,?_,?_,?_,fun h' a M=>?_⟩
 ·exact hk _ _ hC
 ·exact hN.keeps hk
 ·exact T.keeps hk
 ·obtain⟨tt,g1,g2,g3⟩:=M.there
  obtain⟨L,env0,rest,e1,e2,e3⟩:=fr
  have I3:Inv X [] σ H2 s2:=I2.unwish.pins_of fun p hp=>by simp at hp
  exact⟨a,L,.ref C,none,σ,H2,none,[a],env0,rest,rfl,e1,e2,e3,I3.kept (t':=s2.toks) M.keeps,.made g1 rfl rfl rfl rfl rfl,trivial,fun b hb=>by rw [Yp.mp hb]; exact I3.loose M.new,hE⟩
section
variable{X:Cx}{n:Nat}{N':List Str}{scope:Scope}{elt tg iter:Expr}{pos:Pos}{pins:List (Addr×Obj)}{σ:St}{H2:Hp}{s2:Shared}{cl:List (Str×Addr)}
theorem fz{E0:XK}{C:Addr}{fp:List Addr}{x:Value}{s':Shared}(I2:Inv X pins σ H2 s2)(f2:∀ b∈fp,dy X pins H2 b)(fr:bY X)(h:bI (ak X N' scope cl C fp s2 H2) E0 x s'):
  ∃ m,s'.heap.Ns C m∧∀ h',YX C s'.heap h'→∀ cenv:Env,cenv.locals=C→wpAny (model X.prog X.w) X.A (PySem.passOn "comprehension.variables-let-go" x cenv:Sem Value) (fun _ _=>False) (XE X E0) {s' with heap:=h'}:=by
 obtain⟨a,L,cls,dx,σ',H',fl,S,env0,rest,rfl,hs,hf0,hf,I',ex,hp,hS,hE⟩:=h
 obtain⟨m,hn,_⟩:=I'.loc
 refine⟨m,hn,fun h' sb cenv hc=>?_⟩
 have I0:Inv X [] σ H2 s2:=I2.pins_of fun p hp=>by simp at hp
 have un:Un (frs X.stack) fp H2 H' s2.heap s'.heap:=I'.base
 have IX:Inv X [] σ H' s':=I0.call' (ch:=fp) I'.os un I'.hok I'.bare fun b hb=>by
  obtain⟨f0,f1,ff,f3,f4,f5⟩:=f2 b hb
  exact⟨f3,f1,f4,fun p hp=>f5 p (YT _ (by simpa using hp))⟩
 have lo:∀ b∈S,dm X [] H' b:=fun b hb=>by
  obtain⟨u,nw,_,_,_⟩:=hS b hb
  rcases nw with z | z
  ·obtain⟨f0,f1,ff,f3,f4,f5⟩:=f2 b z
   exact⟨u,f3.imp id Xh,Ne.symm (Ne.symm f1),f4,fun p hp=>f5 p (YT _ (by simpa using hp))⟩
  ·obtain⟨_,l2,l3,l4,l5⟩:=I0.loose z
   exact⟨u,l2,l3,l4,l5⟩
 have nC:∀ b∈S,b≠C:=fun b hb=>(hS b hb).loc
 have lC:s2.heap.objs.size≤C:=I'.ok.above
 have cL:dm X [] H' C:=by
  obtain⟨_,l2,l3,l4,l5⟩:=I0.loose (Xh lC)
  exact⟨I'.free,l2,l3,l4,l5⟩
 have nF:C∉frs X.stack:=fun z=>by
  obtain⟨_,o,e,_⟩:=I2.stack.mem z
  exact absurd (Yi e) (Nat.not_lt.mpr lC)
 have IY:Inv X [] σ H' {s' with heap:=h'}:=IX.fly (t':=s'.toks) (S:=[C]) (fun b hb=>by rw [Yp.mp hb]; exact cL) (fun b o q n1 _=>(sb.2 b (fun z=>n1 (by simp [z]))).trans q) fun b o q hb=>⟨o.slots,(sb.2 b (fun z=>nF (by rw [← z]; exact hb))).trans q⟩
 have exY:Exc h' a cls dx fl S:=by
  cases ex with
  | made he hc hx hd h0 h1=>exact .made ((sb.2 a (nC a (by simp))).trans he) hc hx hd h0 h1
  | @ent oe oT vs ts a0 fl T he hc hx hd h0 h1 hTa hT hdT h3=>exact .ent ((sb.2 a (nC a (by simp))).trans he) hc hx hd h0 h1 hTa ((sb.2 T (nC T (by simp))).trans hT) hdT h3
 have hX:bI X E0 (.ref a) {s' with heap:=h'}:=⟨a,L,cls,dx,σ,H',fl,S,env0,rest,rfl,hs,hf0,hf,IY,exY,hp,lo,hE⟩
 exact hX.passAny fun s'' z=>z
theorem mL{E0:XK}{it:Addr}{fp:List Addr}{tn:Nat→Heap→Prop}{J:It}{g:au TG}{te:au TE}{Q:VK}{E:Value→Shared→Prop}
  (hc:X.calm=true) (S:aE n N' X scope) (c1:∀ x c,cl.lookup x=some c→X.env.cells.lookup x=some c) (c2:∀ x∈scope.names,x.2=.free→∃ c,cl.lookup x.1=some c)
  (I2:Inv X pins σ H2 s2) (T:hV X.prog X.w X.K tg J fp it tn) (st2:tn 0 s2.heap) (f2:∀ b∈fp,dy X pins H2 b)
  (hg:∀ cl C ex s H,PG ((ak X N' scope cl C ex s H).exc E0) tg (g cl C ex s H)) (he:∀ cl C ex s H,PE ((ak X N' scope cl C ex s H).exc E0) elt (te cl C ex s H))
  (cok:∀ cl C ex s Hc,fG n J (g cl C ex s Hc) (te cl C ex s Hc) σ H2 Q) :
  wpAny (model X.prog X.w) X.A (newList []) (fun acc s3=>wpAny (model X.prog X.w) X.A (newFunctionEnv scope X.env.globals cl [] X.env.qual none .none (some X.env)) (fun cenv s4=>
   codeAny (model X.prog X.w) X.A (.compStart (.ListComp elt [⟨tg,iter,[],0⟩] scope pos) 0 (.ref it) acc {cenv with scope:=relabel scope X.env})
    (fun r s'=>match r with | .ok _=>bp X pins σ Q acc cenv.locals s' | .error x=>bI (ak X N' scope cl cenv.locals fp s2 H2) E0 x s') s4) E s3) E s2:=by
 have fl:∀ b∈fp,@LT.lt Nat _ b s2.heap.objs.size:=fun b hb=>by
  obtain⟨o,e,_⟩:=T.obj _ _ st2 b hb
  exact Yi e
 have frl:∀ b∈frs X.stack,@LT.lt Nat _ b s2.heap.objs.size:=fun b hb=>by
  obtain⟨_,o,ho,_⟩:=I2.stack.mem hb
  exact Yi ho
 have celll:∀ x c,X.env.cells.lookup x=some c→@LT.lt Nat _ c s2.heap.objs.size:=fun x c e=>by
  obtain⟨v,q⟩:=I2.cell x c e
  exact q.lt
 refine wpAny_newObj_type (wpAny_newFunctionEnv S.cell (by intro y hy; simp at hy) (fun h1 hns1 hsb1=>?_) S.kind)
 dsimp only at hns1 hsb1 ⊢
 generalize hH2:s2.heap.push {cls:=.type "list",dict:=none,data:=.seq ([]:List Value).toArray}=G at hns1 hsb1 ⊢
 have hC:@Eq Nat G.objs.size (s2.heap.objs.size+1):=by rw [← hH2,YO]
 have hDC:s2.heap.objs.size≠G.objs.size:=by show @Ne Nat _ _; omega
 have below:∀ b,@LT.lt Nat _ b s2.heap.objs.size→b≠G.objs.size∧b≠s2.heap.objs.size:=fun b hb=>⟨by show @Ne Nat _ _; omega,Yu hb⟩
 have old:∀ b o,s2.heap.get? b=some o→h1.get? b=some o:=fun b o e=>hsb1.extBut b o (below b (Yi e)).1 (Ye _ (hH2▸Ye _ e))
 have hacc:h1.get? s2.heap.objs.size=some {cls:=.type "list",data:=.seq ([]:List Value).toArray 0}:=hsb1.extBut _ _ hDC (Ye _ (hH2▸Yo _ rfl))
 have hst1:tn 0 h1:=T.keep _ _ _ st2 fun b hb o e=>old b o e
 let X':=ak X N' scope cl G.objs.size fp s2 H2
 obtain⟨W,⟨m0,w0⟩,turn⟩:=cok cl G.objs.size fp s2 H2
 have hXe:X'.xe=X.xe:=rfl
 have stat:∀ {H':Hp} {ps:List (Addr×Obj)},(∀ b∈fp,H' b=none)→(∀ p∈ps,p.1=s2.heap.objs.size)→∀ b∈fp,dy X' ps H' b:=fun {H' ps} hn hp b hb=>by
  obtain⟨f0,f1,ff,f3,f4,f5⟩:=f2 b hb
  refine⟨hn b hb,(below b (fl b hb)).1,fun z=>?_,.inl hb,fun x c e z=>?_,fun p hp' z=>?_⟩
  ·exact(Yr.mp (I2.stkSub b z)).elim f1 ff
  ·exact f4 x c (c1 x c e) z
  ·have e:p.1=s2.heap.objs.size:=hp p (by simpa [X',ak] using hp')
   exact(below b (fl b hb)).2 (z.symm.trans e)
 have loop:∀ s3:Shared,s3={s2 with heap:=h1,toks:=s2.toks+([]:List (Str×Value)).length}→
   codeAny (model X.prog X.w) X.A (.compLoop (.ListComp elt [⟨tg,iter,[],0⟩] scope pos) 0 (.ref it) (.ref s2.heap.objs.size) (compEnvC scope cl G.objs.size X.env))
    (fun r s'=>match r with | .ok _=>bp X pins σ Q (.ref s2.heap.objs.size) G.objs.size s' | .error x=>bI (ak X N' scope cl G.objs.size fp s2 H2) E0 x s') s3:=by
  rintro s3 rfl
  have I3:=jf (us:=[]) (k:=0) (s':={s2 with heap:=h1,toks:=s2.toks+([]:List (Str×Value)).length}) S c1 c2 I2 f2 fl rfl hC rfl rfl old ⟨_,hns1⟩ hacc
  refine cH (fun m s'=>∃ i ys us k σ' H',Inv X' [(s2.heap.objs.size,{cls:=.type "list",data:=.seq (us:List Value).toArray k})] σ' H' s'∧ap ys us∧tn i s'.heap∧(∀ b∈fp,H' b=none)∧ys.length≤sizeLine∧W i m ys σ' H') ?_ m0
   ⟨0,[],[],0,_,H2,I3,.nil,hst1,fun b hb=>(f2 b hb).1,Yy _,w0⟩
  rintro m s' ⟨i,ys,us,k,σ',H',I',rv,st',fr',hlen,w'⟩
  rcases turn i m ys σ' H' w' with ⟨stop,q⟩ | ⟨go,hlt,step⟩
  ·refine thn (T.done X' rfl rfl rfl hc i _ s' σ' H' _ I' (stat fr' (by simp)) st' stop) fun r s4 ⟨hr,I4⟩=>?_
   subst hr
   show bp X pins σ Q (.ref s2.heap.objs.size) G.objs.size s4
   obtain⟨m1,hn1,_⟩:=I4.loc
   obtain⟨pD,nD,_,_,_⟩:=I4.pin (s2.heap.objs.size,{cls:=.type "list",data:=.seq us.toArray k}) (Yk _ (by simp))
   have nD:H' s2.heap.objs.size=none:=nD
   have pD:s4.heap.get? s2.heap.objs.size=some {cls:=.type "list",data:=.seq us.toArray k}:=pD
   have hok:HOk X.prog X.w (upd H' s2.heap.objs.size (.lst ys)) s4.heap:=fun b u e=>by
    by_cases hb:b=s2.heap.objs.size
    ·subst hb
     rw [aa] at e; cases e
     exact⟨hlen,us,k,rv,pD⟩
    ·rw [ac hb] at e
     exact(I4.hok b u e).stay (fun _ _ _ q=>q) (fun c q=>by rw [ac (ae q nD)]; exact q) fun c xs q=>by rw [ac (ae q nD)]; exact q
   have un:Un (frs X.stack) fp H2 (upd H' s2.heap.objs.size (.lst ys)) s2.heap s4.heap:=by
    have u0:=I4.base
    refine⟨u0.keep,u0.slot,fun b o e n hx=>?_,u0.there,fun b xs e=>?_,fun b o xs e=>?_,fun b ps e=>?_⟩
    ·rw [ac (below b (Yi e)).2]; exact u0.free b o e n hx
    ·have q:=u0.tups b xs e
     rw [ac (ae q nD)]; exact q
    ·have q:=u0.frzs b o xs e
     rw [ac (ae q nD)]; exact q
    ·obtain⟨more,q⟩:=u0.tbls b ps e
     exact⟨more,by rw [ac (ae q nD)]; exact q⟩
   have IX:Inv X pins σ (upd H' s2.heap.objs.size (.lst ys)) s4:=I2.call' (ch:=fp) I4.os un hok I4.bare fun b hb=>by
    obtain⟨f0,f1,ff,f3,f4,f5⟩:=f2 b hb
    exact⟨f3,f1,f4,f5⟩
   have hG0:H' G.objs.size=none:=I4.free
   refine⟨s2.heap.objs.size,_,m1,rfl,IX,hn1,⟨by rw [ac (Ne.symm hDC)]; exact hG0,fun z=>?_,fun z=>?_,.inr ?_,fun x c e z=>?_,fun p hp z=>?_⟩,q _ nD⟩
   ·have q1:@LT.lt Nat _ X.env.locals s2.heap.objs.size:=I2.lt
    have q2:@Eq Nat G.objs.size X.env.locals:=z
    omega
   ·have z':G.objs.size∈frs X.outer:=z
    obtain⟨_,o,ho,_⟩:=I2.funs.mem z'
    have q1:@LT.lt Nat _ G.objs.size s2.heap.objs.size:=Yi ho
    omega
   ·have q1:=I2.sz
    show @LE.le Nat _ X.s₀.heap.objs.size G.objs.size
    omega
   ·have q1:=celll x c e
    have q2:@Eq Nat c G.objs.size:=z
    omega
   ·have q1:@LT.lt Nat _ p.1 s2.heap.objs.size:=Yi (I2.pin p hp).1
    have q2:@Eq Nat p.1 G.objs.size:=z
    omega
  ·refine thn (T.item X' rfl rfl rfl hc i _ s' σ' H' _ I' (stat fr' (by simp)) st' go) fun r s4 ⟨u,hr,h4⟩=>?_
   subst hr
   show wpAny _ _ (letOwnedTupleGo tg (.ref it) u) _ _ s4
   refine thn h4 fun _ s5 ⟨x,H5,I5,r5,y5,st5,fr5⟩=>?_
   have I5':=I5.pinned (stat fr5 (by simp)) (T.obj _ _ st5)
   have w1:=hg cl G.objs.size fp s2 H2 _ s5 σ' H5 x u _ (I5'.wish _) r5 (step x H5 y5)
   refine Ym w1 (fun _ s6 ⟨σ6,H6,I6,q6⟩=>?_) fun v s hv=>Ym (XE.note (X:=ak X N' scope cl G.objs.size fp s2 H2) (E:=E0) hv) (fun _ _ z=>z) fun _ _ z=>z
   obtain⟨NN,q6,hNN⟩:=q6
   have w2:=he cl G.objs.size fp s2 H2 _ s6 σ6 H6 _ I6 q6
   refine Ym w2 (fun y s7 ⟨v,H7,I7w,r7,q7⟩=>?_) fun v s hv=>Ym (XE.note (X:=ak X N' scope cl G.objs.size fp s2 H2) (E:=E0) hv) (fun _ _ z=>z) fun _ _ z=>z
   have I7:=I7w.unwish
   obtain⟨m',hm',w7⟩:=hNN v H7 q7
   have pinD:=I7.pin (s2.heap.objs.size,{cls:=.type "list",data:=.seq us.toArray k}) (Yk _ (YT _ (by simp)))
   obtain⟨pD,nD,lD,fD,_⟩:=pinD
   refine append_at (hsz:=by rw [Yq,← rv.length]; exact hlen) pD fun h8 hs8 hD8=>?_
   have nD:H7 s2.heap.objs.size=none:=nD
   have I8:Inv X' (bz fp s5.heap) σ6 H7 {s7 with heap:=h8}:=by
    refine(I7.pins_of (pins':=bz fp s5.heap) fun p hp=>I7.pin p (Yk _ (Yk _ hp))).turned (t':=s7.toks) (it:=s2.heap.objs.size) (fun b o hb e=>(hs8.2 b hb).trans e) nD lD (.inr (Yg _)) (fun x c e z=>?_) fun p hp z=>?_
    ·have q1:=celll x c (c1 x c e)
     have q2:@Eq Nat c s2.heap.objs.size:=z
     omega
    ·have hp':p∈bz fp s5.heap:=by simpa [X',ak] using hp
     have q1:=fl p.1 (dE hp').1
     have q2:@Eq Nat p.1 s2.heap.objs.size:=z
     omega
   have I9:Inv X' [(s2.heap.objs.size,{cls:=.type "list",data:=.seq (us++[y]).toArray (k+1)})] σ6 H7 {s7 with heap:=h8}:=I8.pins_of fun p hp=>by
    have e:p=(s2.heap.objs.size,{cls:=.type "list",data:=.seq (us++[y]).toArray (k+1)}):=by simpa using hp
    subst e
    refine⟨by rw [hD8,List.push_toArray],nD,lD,fD,fun v z=>by cases z⟩
   refine⟨m',hm',i+1,ys++[v],us++[y],k+1,σ6,H7,I9,rv.append (.cons r7 .nil),T.keep _ _ _ st5 fun b hb o e=>?_,fun b hb=>?_,by rw [Yw,YZ]; omega,w7⟩
   ·exact(I8.pin (b,o) (Yk _ (aH hb e))).1
   ·obtain⟨o,e,d⟩:=T.obj _ _ st5 b hb
    exact(I8.pin (b,o) (Yk _ (aH hb e))).2.1
 exact codeAny_compStart_list (loop _ rfl) (T.self _ 0 _ _ _ hst1 (loop _ rfl))
theorem tP{E0:XK}{wi:TI}{g:au TG}{te:au TE}(fr:bY X)(hc:X.calm=true)(S:aE n N' X scope)(hi:PI (X.exc E0) tg iter wi)
  (hg:∀ cl C ex s H,PG ((ak X N' scope cl C ex s H).exc E0) tg (g cl C ex s H)) (he:∀ cl C ex s H,PE ((ak X N' scope cl C ex s H).exc E0) elt (te cl C ex s H))
  (hs:∀ x,foldedSetIterable iter X.env x=pure x:=by intro _; rfl):PE (X.exc E0) (.ListComp elt [⟨tg,iter,[],0⟩] scope pos) (sj n wi g te):=by
 intro pins s σ H Q I h
 rw [eval_ListComp]
 obtain⟨cl,hcl,c1,c2⟩:=de (scope:=scope) (env:=X.env) fun x hx hf=>I.ok.has x.1 (S.free x hx hf)
 refine wpAny_comprehension_free (use:=none) rfl hs hcl S.kind S.names (thn (hi pins s σ H _ I h) fun v s1 h1=>thn h1 fun itv s2 h2=>?_)
 obtain⟨it,fp,tn,J,H2,e,I2w,T,st2,f2,cok⟩:=h2
 subst e
 have I2:=I2w.unwish
 refine Ym (mL (X:=X) (E0:=E0) (pos:=pos) (iter:=iter) (Q:=Q) (E:=(X.exc E0).xe) hc S c1 c2 I2 T st2 f2 hg he cok) (fun acc s3 h3=>Ym h3 (fun cenv s4 h4=>codeAny_mono h4 fun r s' hr=>?_) fun _ _ z=>z) fun _ _ z=>z
 cases r with
 | error e=>exact fz I2 f2 fr hr
 | ok f=>
  obtain⟨D,H',m,rfl,I',hn,⟨f0,f1,ff,f3,f4,f5⟩,q⟩:=hr
  refine⟨m,hn,fun h' hs'=>⟨.ref D,H',Inv.wish ?_ _,rfl,q⟩⟩
  exact I'.turned (t':=s'.toks) (fun b o hb e=>(hs'.2 b hb).trans e) f0 f1 f3 f4 f5
end
structure cf(k:Nat)(A:Around):Prop where
 gd:A.guards=some []
 dp:A.depth+3*k+5<recursionLimit
 un:A.units+16*k+200<cLine
theorem aI.u{k:Nat}{A:Around}(r:aI k A):cf k A:=⟨r.gd,r.dp,r.un⟩
theorem cf.mono{j k:Nat}{A:Around}(r:cf k A)(h:j≤k):cf j A:=⟨r.gd,by have:=r.dp; omega,by have:=r.un; omega⟩
theorem cf.mark{k:Nat}{A:Around}(r:cf k A)(e:Option Value):cf k (A.mark e):=⟨r.gd,r.dp,r.un⟩
theorem cf.deeper{k:Nat}{A:Around}(r:cf (k+1) A)(env:Env):cf k (A.deeper env):=⟨r.gd,(by have:=r.dp; show A.depth+1+3*k+5<_; omega),(by have:=r.un; show A.units+3+16*k+200<_; omega)⟩
theorem cf.depth{k:Nat}{A:Around}(r:cf k A):A.depth<recursionLimit:=by have:=r.dp; omega
structure vG(P:Program)(w:World)(K:XC)(mg:Str→Option Value)(base:Heap)(CX:CXT)(k:Nat)(f:Addr)(fd:FuncData)(ps:List Str)(sp:Sp):Prop where
 len:∀ vs H Q E,sp vs H Q E→vs.length=ps.length
 run:∀ (A:Around) (outer:List Env) (s:Shared) (H:Hp) (args:Args) (us:List Value) (vs:List V) (Q:VK) (E:XK),cf k A→lj P w K mg base A outer s H→BindsTo s fd args (ps.zip us)→ap vs us→sp vs H Q E→
  codeAny (model P w) A (.call (.ref f) args) (CR CX outer P w H s Q E) s
def j3(CX:CXT)(P:Program)(w:World)(K:XC)(mg:Str→Option Value)(base:Heap)(N:List Str)(qual:Str)(scope:Scope)(f:Addr)(cd:Value)(A:Around)(outer:List Env)(s:Shared)(H:Hp)(E:XK):Cx where
 prog:=P
 w:=w
 K:=K
 mg:=mg
 base:=base
 A:=A.deeper (envOfC qual scope s.heap.objs.size f cd)
 N:=N
 s₀:=s
 H₀:=H
 env:=envOfC qual scope s.heap.objs.size f cd
 outer:=outer
 stack:=envOfC qual scope s.heap.objs.size f cd::outer
 ex:=[]
 calm:=false
 fn:=fun _=>true
 pn:=[]
 xe:=fun e s'=>wpAny (model P w) (A.deeper (envOfC qual scope s.heap.objs.size f cd)) (leaving (envOfC qual scope s.heap.objs.size f cd) e) (fun _ s''=>CX outer H s E e s'') (fun e' s''=>CX outer H s E e' s'') s'
theorem oj{CX:CXT}{P:Program}{w:World}{K:XC}{mg:Str→Option Value}{base:Heap}{N ps:List Str}{qual:Str}{scope:Scope}{f:Addr}{cd:Value}{A:Around}{outer:List Env}{s s1:Shared}{H:Hp}{E:XK}{us:List Value}{vs:List V}
  (S:aj N ps scope) (e0:lj P w K mg base A outer s H) (hl:vs.length=ps.length) (r:ap vs us)
  (x:InCallC s s.heap.objs.size (bindL (envOfC qual scope s.heap.objs.size f cd).kindOf (ps.zip us) fun _=>none) (cellsFrom (s.heap.objs.size+1) scope.names []) (bindC (envOfC qual scope s.heap.objs.size f cd).kindOf (ps.zip us) fun _=>none) s1) :
  Inv (j3 CX P w K mg base N qual scope f cd A outer s H E) [] (b8 N vs) H s1:=by
 have hpl:ps.length≤N.length:=by have:=congrArg List.length S.pre; rw [YV] at this; omega
 obtain⟨h1,tk,rfl,hk⟩:=x.done
 have noA:∀ b:Addr,b∉(j3 CX P w K mg base N qual scope f cd A outer s H E).ex:=fun b z=>absurd (show b∈([]:List Addr) from z) (by simp)
 refine⟨⟨e0.mod,S.kind,rfl,rfl,Yg _,fun y z c h1 h2=>?_,fun y hy=>?_,fun y c _ h=>?_,(fun z=>nomatch z),Around.frames_deeper e0.frames,.inr ⟨rfl,rfl⟩,fun b z=>absurd z (noA b),e0.bs,e0.bsz,fun b _ _=>noA b,fun b z=>absurd z (noA b),e0.funs,e0.frf⟩,
  rfl,e0.bare,Un.kept hk,⟨_,x.toInCall.ns,fun i y v h1 h2 h3=>?_⟩,fun y c h=>⟨_,x.cell y c h⟩,e0.hok.fresh (Yg _),fun y c h=>?_,fun p hp=>absurd (show p∈([]:List (Addr×Obj)) from hp) (by simp),e0.hok.kept hk,?_⟩
 ·exact name_of_addr x.apart (PySem.mem_of_lookup h1) (PySem.mem_of_lookup h2)
 ·have hy:scope.names.lookup y=some .cell∨scope.names.lookup y=some .free:=hy
  rcases hy with hy | hy
  ·exact gh hy
  ·exact absurd rfl (S.nofree _ (PySem.mem_of_lookup hy))
 ·exact Nat.le_of_lt (x.above y c (PySem.mem_of_lookup h))
 ·have hi:i<vs.length:=by
   unfold b8 at h2
   by_cases hi:i<vs.length
   ·exact hi
   ·rw [Xp (by simpa using hi)] at h2
    rw [List.getElem?_replicate] at h2
    split at h2 <;> cases h2
  have ha:vs[i]? = some v:=by
   unfold b8 at h2
   rw [Xv (by simpa using hi),YB] at h2
   cases e:vs[i]? with
   | none=>rw [e] at h2; cases h2
   | some a=>rw [e] at h2; cases h2; rfl
  obtain⟨u,hu,rv⟩:=r.get ha
  have hp:ps[i]? = some y:=by
   rw [← S.pre,List.getElem?_take_of_lt (by omega)]; exact h1
  have ndP:ps.Nodup:=by rw [← S.pre]; exact S.nd.sublist (List.take_sublist _ _)
  refine⟨u,rv,?_⟩
  rcases S.par y (YD hp) with k | k
  ·exact .inl ⟨k,gM ndP hp hu k⟩
  ·obtain⟨c,e⟩:=gh (n:=s.heap.objs.size+1) k
   refine .inr ⟨.inl k,c,e,?_⟩
   have q:=x.cell y c e
   rw [gN ndP hp hu (by show scope.names.lookup y≠_; rw [k]; decide)] at q
   exact q
 ·exact e0.hok.fresh (Nat.le_of_lt (x.above y c (PySem.mem_of_lookup h)))
 ·unfold b8
  show _=N.length
  rw [Yw,Yh,Y3]
  omega
theorem zn{CX:CXT}{P:Program}{w:World}{K:XC}{mg:Str→Option Value}{base:Heap}{k:Nat}{f:Addr}{name qual:Str}{params:Arguments}{body:List Stmt}{scope:Scope}{dV kV doc pm cdv ct oc:Value}{an od:Option Addr}
  {osl:Array (Option Value)} {N ps:List Str} {sp:Sp} (lk:K.lookup f=some ⟨oc,od,.func (PySem.W.fnOf name qual params body scope dV kV doc pm an cdv ct),osl⟩) (hcd:PySem.W.codeIn K cdv qual=true) (S:aj N ps scope)
  (len:∀ vs H Q E,sp vs H Q E→vs.length=ps.length)
  (hbody:∀ (A:Around) (outer:List Env) (s:Shared) (H:Hp) (vs:List V) (Q:VK) (E:XK),cf k (A.deeper (envOfC qual scope s.heap.objs.size f cdv))→sp vs H Q E→
   ∃ t,PSs (j3 CX P w K mg base N qual scope f cdv A outer s H E) body t∧t {nx:=fun _ H'=>Q .non H',rt:=Q} (b8 N vs) H) :
  vG P w K mg base CX (k+1) f (PySem.W.fnOf name qual params body scope dV kV doc pm an cdv ct) ps sp:=by
 refine⟨len,fun A outer s H args us vs Q E hr e0 hb r hsp=>?_⟩
 have hl:=len _ _ _ _ hsp
 have KX:K.In s.heap:=e0.mod.kin.keeps fun b o e=>(e0.bs b o e).1
 have lim:s.heap.NoLimit:=e0.mod.nolimit.keeps fun b o e=>(e0.bs b o e).1
 have hkind:∀ y∈ps.zip us,scope.names.lookup y.1=some .local∨(scope.names.lookup y.1=some .cell∧((cellsFrom (s.heap.objs.size+1) scope.names []).lookup y.1).isSome=true):=fun ⟨n,v⟩ hy=>by
  rcases S.par n (List.of_mem_zip hy).1 with q | q
  ·exact .inl q
  ·exact .inr ⟨q,PySem.W.cellsFrom_some _ _ _ (.inl q)⟩
 refine codeAny_call_function hr.depth (KX _ _ lk) rfl S.co S.gen rfl (PySem.W.codeRec_of KX hcd) (hb _ _ _ _ ?_)
 refine wpAny_newFunctionEnv_cells S.kind hkind fun env he s1 x=>?_
 subst he
 refine⟨lim.keeps x.toInCall.keep,codeAny_func ?_⟩
 obtain⟨t,ht,hq⟩:=hbody A outer s H vs Q E (hr.deeper _) hsp
 have I:Inv (j3 CX P w K mg base N qual scope f cdv A outer s H E) [] (b8 N vs) H s1:=oj S e0 hl r x
 refine Ym (ht [] s1 (b8 N vs) H _ I hq) (fun fl s' hs=>?_) fun e s' hs=>hs
 have fin:∀ {σ':St} {H':Hp} {v:V} {u:Value},Inv (j3 CX P w K mg base N qual scope f cdv A outer s H E) [] σ' H' s'→aq v u→Q v H'→CE outer P w H s Q u s':=
  fun {σ' H' v u} J rv q=>⟨v,H',J.os,J.bare,J.base,J.hok,rv,q⟩
 cases fl with
 | ret u=>
  obtain⟨v,σ',H',J,rv,q⟩:=hs
  exact fin J rv q
 | next=>
  obtain⟨σ',H',J,q⟩:=hs
  exact fin (v:=V.non) (u:=Value.none) J rfl q
 | brk=>
  obtain⟨_,_,_,q⟩:=hs
  exact False.elim q
 | cont=>
  obtain⟨_,_,_,q⟩:=hs
  exact False.elim q
theorem vO{X:Cx}{k:Nat}{f:Addr}{fd:FuncData}{ps:List Str}{sp:Sp}{pins:List (Addr×Obj)}{σ:St}{H:Hp}{s:Shared}{Q:VK}{us:List Value}{vs:List V}(F:vG X.prog X.w X.K X.mg X.base CX0 k f fd ps sp)(hr:cf k X.A)(hb:cg X.K fd ps [])
  (I:Inv X pins σ H s) (r:ap vs us) (h:sp vs H Q E0):wpAny (model X.prog X.w) X.A (call (.ref f) us) (EP X pins σ Q) X.xe s:=by
 have hl:(us++[]).length=ps.length:=by rw [YS,← r.length]; exact F.len _ _ _ _ h
 have b:=hb s us I.kIn hl
 rw [YS] at b
 refine wpAny_call (codeAny_mono (F.run X.A X.stack s H ⟨us,[]⟩ us vs Q E0 hr I.env0 b r h) fun r s' hq=>?_)
 cases r with
 | error e=>exact False.elim hq
 | ok fl=>
  cases fl with
  | ret u=>exact I.after hq
  | next=>exact False.elim hq
  | brk=>exact False.elim hq
  | cont=>exact False.elim hq
def xF(P:Program)(w:World)(K:XC)(mg:Str→Option Value)(base:Heap)(x:Str)(k:Nat)(ps:List Str)(sp:Sp):Prop:=
 ∃ f fd,mg x=some (.ref f)∧PySem.W.keepIn K (.ref f)=true∧cg K fd ps []∧vG P w K mg base CX0 k f fd ps sp
theorem wq{X:Cx}{x:Str}{k:Nat}{ps:List Str}{sp:Sp}{p pos:Pos}{e:Expr}{es:List Expr}{t:TA}(D:xF X.prog X.w X.K X.mg X.base x k ps sp)(hr:cf k X.A)(hg:Gl X x)(ha:PA X (e::es) t)
  (hdb:(x==("__debug__":Str))=false:=by decide) (he:starEach (e::es) X.env=(false,eval e X.env)::starEach es X.env:=by rfl) (hpl:(backTo pos (starEach es X.env)).any (·.1)=false:=by rfl) :
  PE X (.Call (.Name x p) (e::es) [] pos) (fM sp [] E0 t):=by
 obtain⟨f,fd,hm,hk,hb,F⟩:=D
 intro pins s σ H Q I h
 refine wpAny_Call_Name_kw (eM I hg hm ?_ hdb)
 refine PySem.W.callWith_K (h₀:=X.base) I.ok.mod.kin hk (thn (ha pos pins s σ H _ I h) fun us s1 ⟨vs,H1,I1,r,q⟩=>⟨I1.kIn,?_⟩) he hpl
 have q':sp (vs++[]) H1 Q E0:=q
 rw [YS] at q'
 exact vO F hr hb I1 r q'
theorem ah.mkU{P:Program}{w:World}{K:XC}{mg:Str→Option Value}{base:Heap}{x:Str}{st:Stmt}{N ps:List Str}{k:Nat}{sp:Sp}(F:ah K mg x st ps)(S:aj N ps (ag st))(len:∀ vs H Q E,sp vs H Q E→vs.length=ps.length)
  (hbody:∀ (f:Addr) (cdv:Value) (A:Around) (outer:List Env) (s:Shared) (H:Hp) (vs:List V) (Q:VK) (E:XK),cf k (A.deeper (envOfC x (ag st) s.heap.objs.size f cdv))→sp vs H Q E→
   ∃ t,PSs (j3 CX0 P w K mg base N x (ag st) f cdv A outer s H E).nox (bg st) t∧t {nx:=fun _ H'=>Q .non H',rt:=Q} (b8 N vs) H):xF P w K mg base x (k+1) ps sp:=by
 obtain⟨f,fd,Fn,hm,hb⟩:=F.ex
 refine⟨f,fd,hm,Fn.kp,hb,?_⟩
 obtain⟨oc,od,kV,doc,pm,an,cdv,ct,osl,rfl,lk,hcd⟩:=Fn.ex
 refine zn lk hcd S len fun A outer s H vs Q E hr hsp=>?_
 obtain⟨t,h,q⟩:=hbody f cdv A outer s H vs Q E hr hsp
 exact⟨t,h.nox,q⟩
abbrev Cx.pnd(X:Cx)(pn:List (Addr×Obj)):Cx:={X with pn:=pn}
abbrev Cx.held(X:Cx)(e:Value):Cx:={X with A:=X.A.mark (some e),calm:=false,xe:=fun _ _=>False}
section
variable{X:Cx}{pins:List (Addr×Obj)}{σ:St}{H:Hp}{s:Shared}
theorem Cx.Ok.pnd{pn:List (Addr×Obj)}(ok:X.Ok):(X.pnd pn).Ok:=⟨ok.mod,ok.kind,ok.glob,ok.blt,ok.above,ok.inj,ok.has,ok.cab,ok.hd,ok.frames,ok.stk,ok.exf,ok.bs,ok.bsz,ok.noex,ok.exfs,ok.funs,ok.frf⟩
theorem Cx.Ok.unpnd{pn:List (Addr×Obj)}(ok:(X.pnd pn).Ok):X.Ok:=⟨ok.mod,ok.kind,ok.glob,ok.blt,ok.above,ok.inj,ok.has,ok.cab,ok.hd,ok.frames,ok.stk,ok.exf,ok.bs,ok.bsz,ok.noex,ok.exfs,ok.funs,ok.frf⟩
theorem Inv.pnd(I:Inv X pins σ H s):Inv (X.pnd (X.pn++pins)) [] σ H s:=⟨I.ok.pnd,I.os,I.bare,I.base,I.loc,I.cell,I.free,I.freeC,fun p hp=>I.pin p (by simpa using hp),I.hok,I.len⟩
theorem Inv.unpnd(I:Inv (X.pnd (X.pn++pins)) [] σ H s):Inv X pins σ H s:=⟨I.ok.unpnd,I.os,I.bare,I.base,I.loc,I.cell,I.free,I.freeC,fun p hp=>I.pin p (by simpa using hp),I.hok,I.len⟩
theorem Inv.held(I:Inv X pins σ H s)(e:Value):Inv (X.held e) pins σ H s:=⟨⟨I.ok.mod,I.ok.kind,I.ok.glob,I.ok.blt,I.ok.above,I.ok.inj,I.ok.has,I.ok.cab,(fun z=>nomatch z),I.ok.frames,I.ok.stk,I.ok.exf,I.ok.bs,I.ok.bsz,I.ok.noex,I.ok.exfs,I.ok.funs,I.ok.frf⟩,I.os,I.bare,I.base,I.loc,I.cell,I.free,I.freeC,I.pin,I.hok,I.len⟩
theorem Inv.unheld{e:Value}{ok:X.Ok}(I:Inv (X.held e) pins σ H s):Inv X pins σ H s:=⟨ok,I.os,I.bare,I.base,I.loc,I.cell,I.free,I.freeC,I.pin,I.hok,I.len⟩
def oN(C a:Addr)(dx:Option Addr):HO:=HO.ext fun h=>∃ oe,h.get? a=some oe∧oe.cls=.ref C∧oe.dict=dx∧PySem.W.notCls oe=true
theorem Inv.track{C a:Addr}{dx:Option Addr}{oe:Obj}(I:Inv X pins σ H s)(l:dm X pins H a)(e:s.heap.get? a=some oe)(c:oe.cls=.ref C)(d:oe.dict=dx)(nc:PySem.W.notCls oe=true):Inv X pins σ (upd H a (oN C a dx)) s:=by
 have nb:∀ b u,H b=some u→b≠a:=fun b u q=>ae q l.un
 refine⟨I.ok,I.os,I.bare,⟨I.base.keep,I.base.slot,fun b o q n hx=>?_,I.base.there,fun b xs q=>?_,fun b o xs q=>?_,fun b ps q=>?_⟩,I.loc,I.cell,?_,fun x c hc=>?_,fun p hp=>?_,fun b u q=>?_,I.len⟩
 ·have : b≠a:=by
   rintro rfl
   rcases l.new with z | z
   ·exact hx z
   ·rw [z] at q; cases q
  rw [ac this]; exact I.base.free b o q n hx
 ·have:=I.base.tups b xs q
  rw [ac (nb b _ this)]; exact this
 ·have:=I.base.frzs b o xs q
  rw [ac (nb b _ this)]; exact this
 ·obtain⟨m,z⟩:=I.base.tbls b ps q
  exact⟨m,by rw [ac (nb b _ z)]; exact z⟩
 ·rw [ac (Ne.symm l.loc)]; exact I.free
 ·rw [ac (l.cel x c hc)]; exact I.freeC x c hc
 ·obtain⟨e1,n,ne,nf,d⟩:=I.pin p hp
  exact⟨e1,by rw [ac (l.pin p hp)]; exact n,ne,nf,d⟩
 ·by_cases hb:b=a
  ·subst hb
   rw [aa] at q; cases q
   exact⟨⟨oe,e,c,d,nc⟩,⟨oe,e⟩,fun h1 h2 ⟨o,z1,z2⟩ k=>⟨o,k o z1,z2⟩⟩
  ·rw [ac hb] at q
   exact(I.hok b u q).stay (fun _ _ _ z=>z) (fun c z=>by rw [ac (nb c _ z)]; exact z) fun c xs z=>by rw [ac (nb c _ z)]; exact z
theorem qf{M:Model}{A:Around}{E:Value→Shared→Prop}{i:Nat}{x:Str}{v:V}{pos:Pos}{Q:Unit→Shared→Prop}(I:Inv X pins σ H s)(hN:X.N.Nodup)(hi:X.N[i]? = some x)(hk:X.env.scope.names.lookup x=some .local)(hv:σ[i]? = some (some v))
  (h:∀ s',Inv X pins (σ.set i none) H s'→Q () s'):wpAny M A (unbindBehindTheSuite X.env x pos) Q E s:=by
 obtain⟨m,hn,hl⟩:=id I.loc
 obtain⟨u,_,lk⟩:=hl i x v hi hv (.inl hk)
 have hm:m x=some u:=by
  rcases lk with ⟨_,z⟩ | ⟨z,_⟩
  ·exact z
  ·rcases z with z | z <;> (rw [show X.env.kindOf x=some NameKind.local from hk] at z; cases z)
 have hcls:(X.env.scope.kind==.class||(X.env.scope.kind==.module&&X.env.locals != X.env.globals))=false:=by rw [I.ok.kind]; rfl
 unfold unbindBehindTheSuite
 refine wpAny_onRaise (wpAny_unbindName_local hk hn hm hcls fun h' u' hn' hs=>h _ ?_)
 have low:∀ b o,X.s₀.heap.get? b=some o→b≠X.env.locals:=fun b o e=>Yu (YC (Yi e) I.ok.above)
 refine⟨I.ok,I.os,I.bare,⟨fun b o e n hb hx=>(hs.2 b (low b o e)).trans (I.base.keep b o e n hb hx),fun b o e n hb hx=>?_,I.base.free,fun b o e hx=>?_,I.base.tups,I.base.frzs,I.base.tbls⟩,⟨_,hn',fun j y v' e1 e2 e3=>?_⟩,fun y c e=>?_,I.free,I.freeC,fun p hp=>?_,fun b o e=>?_,by rw [List.length_set]; exact I.len⟩
 ·obtain⟨sl,e1⟩:=I.base.slot b o e n hb hx
  exact⟨sl,(hs.2 b (low b o e)).trans e1⟩
 ·obtain⟨o',e1⟩:=I.base.there b o e hx
  exact⟨o',(hs.2 b (low b o e)).trans e1⟩
 ·by_cases hj:j=i
  ·subst hj
   rw [List.getElem?_set] at e2
   simp at e2
  ·rw [List.getElem?_set_ne (Ne.symm hj)] at e2
   obtain⟨u2,r2,q⟩:=hl j y v' e1 e2 e3
   refine⟨u2,r2,?_⟩
   rcases q with ⟨k,e⟩ | ⟨k,c,e,z⟩
   ·refine .inl ⟨k,?_⟩
    have : y≠x:=fun e=>hj (fX hN e1 (e▸hi))
    simp [this,e]
   ·exact .inr ⟨k,c,e,z.sameBut hs (I.cne y c e)⟩
 ·obtain⟨w',z⟩:=I.cell y c e
  exact⟨w',z.sameBut hs (I.cne y c e)⟩
 ·obtain⟨e,n,ne,nf,d⟩:=I.pin p hp
  exact⟨(hs.2 p.1 ne).trans e,n,ne,nf,d⟩
 ·refine(I.hok b o e).stay (fun c w' hc q=>(hs.2 c ?_).trans q) (fun _ q=>q) fun _ _ q=>q
  rintro rfl
  rcases hc with rfl | hc
  ·rw [I.free] at e; cases e
  ·rw [I.free] at hc; cases hc
end
def pX(K:XC)(B:Addr):Prop:=∃ d cd sl,K.lookup B=some ⟨.type "type",d,.cls cd,sl⟩
theorem A9{M:Model}{A:Around}{K:XC}{E:Value→Shared→Prop}{s:Shared}{a B C:Addr}{o:Obj}{Q:Bool→Shared→Prop}(X:K.In s.heap)(hB:pX K B)(mB:PySem.W.mroIn K B (.type "BaseException")=some true)(mC:PySem.W.mroIn K C (.ref B)=some true)
  (hx:s.heap.get? a=some o) (hc:o.cls=.ref C) (q:Q true s):wpAny M A (excMatches (.ref a) (.ref B)) Q E s:=by
 obtain⟨h,g,d,t,os⟩:=s
 obtain⟨d',cd',sl',ho⟩:=hB
 have hO:=X _ _ ho
 have f:=tc_notTuple
 have L1:=PySem.W.looks_mroIn (M:=M) X mB
 have L2:=PySem.W.looks_mroIn (M:=M) X mC
 unfold excMatches
 repeat (first | (with_reducible refine wpAny_loadPart_at hx ?_; rw [hc]) | with_reducible refine wpAny_loadPart_at hO ?_ | (with_reducible refine L1.at ?_) | (with_reducible refine L2.at ?_) | wp_step)
 exact q
def AM(K:XC)(B:Addr)(i:Nat)(Ec:XK)(tb ts:TS):TS:=fun D σ H=>tb D σ H∧∀ (cls:Value) (dx:Option Addr) (H1:Hp) (σ1:St),Ec cls dx H1→σ1.length=σ.length→∃ C,cls=.ref C∧PySem.W.mroIn K C (.ref B)=some true∧∀ a,H1 a=none→
 ts {nx:=fun σ2 H2=>D.nx (σ2.set i none) H2,rt:=D.rt,bk:=fun σ2 H2=>D.bk (σ2.set i none) H2,ct:=fun σ2 H2=>D.ct (σ2.set i none) H2} (σ1.set i (some (.ref a))) (upd H1 a (oN C a dx))
theorem sZ{X:Cx}{E':Value→Shared→Prop}{Ec:XK}{B:Addr}{i:Nat}{x n:Str}{body suite:List Stmt}{b0:Stmt}{np hp pos:Pos}{tb ts:TS}(hm:X.mg x=some (.ref B))(hB:pX X.K B)(mB:PySem.W.mroIn X.K B (.type "BaseException")=some true)(hg:Gl X x)(hN:X.N.Nodup)(hi:X.N[i]? = some n)(hl:X.env.scope.names.lookup n=some .local)
  (hb:∀ pn,PSs ((X.pnd pn).exc Ec) body tb) (hs:∀ pn e,PSs ((X.pnd pn).held e) (b0::suite) ts) (hdb:(x==("__debug__":Str))=false:=by decide) :
  PS (X.wish E') (.Try body [.ExceptHandler (some (.Name x np)) (some n) (b0::suite) hp] [] [] pos) (AM X.K B i Ec tb ts):=by
 intro pins s σ H D Iw h
 obtain⟨h1,h2⟩:=h
 have I:Inv X pins σ H s:=Iw.unwish
 refine wpAny_Try_except (Ym (hb (X.pn++pins) [] s σ H D (I.pnd.wish _) h1) (fun f s1 z=>?_) fun e s1 z=>?_)
 ·have z':SP (X.wish E') pins D f s1:=by
   cases f with
   | next=>obtain⟨σ',H',J,q⟩:=z; exact⟨σ',H',J.unwish.unpnd.wish _,q⟩
   | brk=>obtain⟨σ',H',J,q⟩:=z; exact⟨σ',H',J.unwish.unpnd.wish _,q⟩
   | cont=>obtain⟨σ',H',J,q⟩:=z; exact⟨σ',H',J.unwish.unpnd.wish _,q⟩
   | ret u=>obtain⟨v,σ',H',J,r,q⟩:=z; exact⟨v,σ',H',J.unwish.unpnd.wish _,r,q⟩
  cases f with
  | next=>exact wpAny_execs_nil z'
  | brk=>exact z'
  | cont=>exact z'
  | ret u=>exact z'
 ·have z1:XE (X.pnd (X.pn++pins)) Ec e s1:=z
  refine Ym z1.note (fun _ s2 z2=>Ym z2.land (fun _ s3 z3=>?_) fun _ _ q=>q) fun _ _ q=>q
  obtain⟨a,L,cls,dx,σ1,H1,fl,S,env0,rest,rfl,hst,hf0,hf,I3,ex,hpp,hS,hE⟩:=id z3
  have hlen:σ1.length=σ.length:=I3.len.trans I.len.symm
  obtain⟨C,rfl,mC,h3⟩:=h2 cls dx H1 σ1 hE hlen
  have hcl:∃ oe,s3.heap.get? a=some oe∧oe.cls=.ref C:=by
   cases ex with
   | made he hc=>exact⟨_,he,hc⟩
   | ent he hc=>exact⟨_,he,hc⟩
  obtain⟨oe,he,hoc⟩:=hcl
  refine wpAny_handleBy_cons (codeAny_handlers_test (eM (X:=(X.pnd (X.pn++pins)).held (.ref a)) (I3.held _) hg hm ?_ hdb)) (by intro q; cases q)
  refine A9 I3.kIn hB mB mC he hoc ?_
  refine codeAny_handlers_suite_as ?_
  refine Ym z3.land (fun _ s4 z4=>?_) fun _ _ q=>q
  obtain⟨a',L',cls',dx4,σ4,H4,fl4,S4,env4,rest4,ea,hst4,hf04,hf4,I4,ex4,hpp4,hS4,hE4⟩:=z4
  cases ea
  have hlen4:σ4.length=σ.length:=I4.len.trans I.len.symm
  obtain⟨C4,rfl,mC4,h4⟩:=h2 cls' dx4 H4 σ4 hE4 hlen4
  have hcl4:∃ oe,s4.heap.get? a=some oe∧oe.cls=.ref C4∧oe.dict=dx4∧PySem.W.notCls oe=true:=by
   cases ex4 with
   | made he hc hx hd=>exact⟨_,he,hc,hx,by unfold PySem.W.notCls; rw [hd]⟩
   | ent he hc hx hd=>exact⟨_,he,hc,hx,by unfold PySem.W.notCls; rw [hd]⟩
  obtain⟨oe4,he4,hoc4,hod4,hnc4⟩:=hcl4
  have la:dm (X.pnd (X.pn++pins)) [] H4 a:=by
   cases ex4 with
   | made=>exact hS4 a (by simp)
   | ent=>exact hS4 a (by simp)
  have I5:=(I4.track la he4 hoc4 hod4 hnc4).held (.ref a)
  refine cT (X:=(X.pnd (X.pn++pins)).held (.ref a)) (v:=.ref a) I5 hN hi (.inl hl) rfl (fun s5 I6=>?_) (.inr hl)
  refine Ym (hs (X.pn++pins) (.ref a) [] s5 _ _ _ I6 (h4 a la.un)) (fun f s6 z6=>?_) fun _ _ q=>False.elim q
  have iσ:∀ σ':St,σ'.length=X.N.length→(σ'.set i (some V.non))[i]? = some (some V.non):=fun σ' hl'=>List.getElem?_set_self (by rw [hl']; exact(Yv.mp hi).1)
  have fin:∀ {σ':St} {H':Hp} {Q:Unit→Shared→Prop},Inv ((X.pnd (X.pn++pins)).held (.ref a)) [] σ' H' s6→(∀ s8,Inv (X.wish E') pins (σ'.set i none) H' s8→Q () s8)→wpAny (model X.prog X.w) X.A (do bindName X.env n .none; unbindBehindTheSuite X.env n hp) Q (X.wish E').xe s6:=fun {σ' H' Q} J k=>by
   refine Yd (wpAny_bindName (cT (X:=(X.pnd (X.pn++pins)).held (.ref a)) (v:=.non) J hN hi (.inl hl) rfl (fun s7 J7=>?_) (.inr hl)))
   refine qf (X:=(X.pnd (X.pn++pins)).held (.ref a)) J7 hN hi hl (iσ σ' J.len) fun s8 J8=>k s8 ?_
   rw [List.set_set] at J8
   exact(J8.unheld (ok:=I3.ok)).unpnd.wish _
  cases f with
  | next=>obtain⟨σ',H',J,q⟩:=z6; exact fin J fun s8 J8=>⟨_,_,J8,q⟩
  | brk=>obtain⟨σ',H',J,q⟩:=z6; exact fin J fun s8 J8=>⟨_,_,J8,q⟩
  | cont=>obtain⟨σ',H',J,q⟩:=z6; exact fin J fun s8 J8=>⟨_,_,J8,q⟩
  | ret u=>obtain⟨v,σ',H',J,r,q⟩:=z6; exact fin J fun s8 J8=>⟨v,_,_,J8,r,q⟩
end L2
set_option maxHeartbeats 8000000
namespace L2
open PySem PySem.Spec PyProof.Rows
structure cA(K:XC)(C:Addr):Prop where
 ga:PySem.W.findIn K (.ref C) "__getattribute__"=some (some (.builtin "BaseException.__getattribute__"))
 gn:PySem.W.findIn K (.ref C) "__getattr__"=some none
 cl:PySem.W.findIn K (.ref C) "__class__"=some (some (.builtin "object.__class__"))
 mb:PySem.W.mroIn K C (.type "BaseException")=some true
 mo:PySem.W.mroIn K C (.type "object")=some true
 ty:(PySem.W.clsIn K C).isSome=true
section
variable{prog:Program}{w:World}{A:Around}{E:Value→Shared→Prop}{h:Heap}{g:Array GenState}{d:Drawn}{t:Nat}{os:OsState}{a C:Addr}{o:Obj}{K:XC}
theorem rL{R:Result→Shared→Prop}(X:K.In h)(F:cA K C)(hx:h.get? a=some o)(hc:o.cls=.ref C)(q:R (.ok (.ret (.ref C))) ⟨h,g,d,t,os⟩):
  codeAny (model prog w) A (.call (.builtin "getset_descriptor.__get__") ⟨[.builtin "object.__class__",.ref a,.ref C],[]⟩) R ⟨h,g,d,t,os⟩:=by
 have hT5:(⟨h,g,d,t,os⟩:Shared).TypeIs (.builtin "object.__class__") "getset_descriptor":=PySem.F.typeOf_object_class
 have L:=PySem.W.looks_mroIn (M:=model prog w) X F.mo
 have eo:(Value.type (".".intercalate ("object.__class__".cutAt '.').dropLast))=.type "object":=by rw [PySem.F.owner_object_class]
 refine codeAny_call_builtin PySem.F.slot_gs_get.plain PySem.F.entry_gs_get (PySem.F.slot_gs_get.check _ _ _ _ _ _ _ _ hT5 (PySem.F.args_gs_get _ _ _) ?_)
 repeat (any_goals (first | assumption | (with_reducible refine wpAny_loadPart_at hx ?_; rw [hc]) | (rw [eo]; with_reducible refine L.at ?_) | wp_step))
 refine⟨Code.quiet_builtin _ (by decide +kernel),codeAny_builtin PySem.F.entry_object_class ?_⟩
 repeat (any_goals (first | assumption | (with_reducible refine wpAny_loadPart_at hx ?_; rw [hc]) | wp_step))
theorem mV{tk:Tok}{Q:Fin→Shared→Prop}(X:K.In h)(F:cA K C)(hx:h.get? a=some o)(hc:o.cls=.ref C)(q:Q (.done (.ret (.ref C))) ⟨h,g,d,t,os⟩):
  wpAny (model prog w) A (Builtin.«object.__getattribute__» ⟨[.ref a,.str "__class__" tk],[]⟩) Q E ⟨h,g,d,t,os⟩:=by
 have hT5:(⟨h,g,d,t,os⟩:Shared).TypeIs (.builtin "object.__class__") "getset_descriptor":=PySem.F.typeOf_object_class
 have L:=PySem.W.looks_findIn (M:=model prog w) X F.cl
 have f5:=PySem.F.typeOf_object_class
 have f6:=PySem.F.slot_gs_get.lookup
 have f7:=PySem.F.slot_gs_set.lookup
 repeat (any_goals (first | assumption | (with_reducible refine wpAny_loadPart_at hx ?_; rw [hc]) | (with_reducible refine L.at ?_) | wp_step))
 refine rL X F hx hc ?_
 repeat (any_goals (first | assumption | wp_step))
theorem mW{nameV:Value}{Q:Unit→Shared→Prop}(X:K.In h)(F:cA K C)(hx:h.get? a=some o)(hc:o.cls=.ref C)(q:Q () ⟨h,g,d,t,os⟩):
  wpAny (model prog w) A (checkBuiltinCall "BaseException.__getattribute__" ⟨[.ref a,nameV],[]⟩) Q E ⟨h,g,d,t,os⟩:=by
 have hk:builtinKind "BaseException.__getattribute__"=some .slot:=by decide +kernel
 have hsplit:splitId "BaseException.__getattribute__"=some ("BaseException","__getattribute__"):=by decide +kernel
 have ha:=PySem.F.args_bexc_ga (.ref a) nameV
 have L:=PySem.W.looks_mroIn (M:=model prog w) X F.mb
 simp only [checkBuiltinCall,hk,hsplit]
 refine Yd ?_
 unfold isInstance
 repeat (first | (with_reducible refine wpAny_loadPart_at hx ?_; rw [hc]) | (with_reducible refine L.at ?_) | wp_step)
 exact q
theorem p4{tk:Tok}{R:Result→Shared→Prop}(X:K.In h)(F:cA K C)(hx:h.get? a=some o)(hc:o.cls=.ref C)(q:R (.ok (.ret (.ref C))) ⟨h,g,d,t,os⟩):
  codeAny (model prog w) A (.call (.builtin "BaseException.__getattribute__") ⟨[.ref a,.str "__class__" tk],[]⟩) R ⟨h,g,d,t,os⟩:=
 codeAny_call_builtin PySem.F.attrBase_ValueError.ga.plain PySem.F.entry_bexc_ga (mW X F hx hc (mV X F hx hc q))
theorem vI{tk:Tok}{Q:Value→Shared→Prop}(X:K.In h)(F:cA K C)(hx:h.get? a=some o)(hc:o.cls=.ref C)(q:Q (.ref C) ⟨h,g,d,t,os⟩):
  wpAny (model prog w) A (getAttrBy (.ref a) (.str "__class__" tk) false) Q E ⟨h,g,d,t,os⟩:=by
 have f3:=PySem.F.attrBase_ValueError.ga.bind (.ref a)
 have L1:=PySem.W.looks_findIn (M:=model prog w) X F.ga
 have L2:=PySem.W.looks_findIn (M:=model prog w) X F.gn
 have hx2:(Value.builtin "BaseException.__getattribute__"==Value.builtin "object.__getattribute__")=false:=by decide +kernel
 have hx1:(onTheHeap (Value.ref C)&&Value.builtin "BaseException.__getattribute__"==Value.builtin "object.__getattribute__")=false:=by rw [hx2]; rfl
 repeat (any_goals (first | assumption | (with_reducible refine wpAny_loadPart_at hx ?_; rw [hc]) | (with_reducible refine L1.at ?_) | (with_reducible refine L2.at ?_) | wp_step))
 refine p4 X F hx hc ?_
 repeat (any_goals (first | assumption | wp_step))
theorem qa{Q:Option Value→Shared→Prop}(X:K.In h)(F:cA K C)(hx:h.get? a=some o)(hc:o.cls=.ref C)(q:Q (some (.ref C)) ⟨h,g,d,t+1,os⟩):
  wpAny (model prog w) A (getAttr? (.ref a) "__class__") Q E ⟨h,g,d,t,os⟩:=by
 unfold getAttr? getAttrBy?
 repeat (any_goals (first | assumption | (with_reducible refine vI X F hx hc ?_) | wp_step))
end
end L2
set_option maxHeartbeats 4000000
namespace L2
open PySem PySem.Spec PyProof.Rows
theorem mq{K:XC}{a C:Addr}(F:cA K C):PySem.W.KitX K (.ref a) (.ref C) (fun h=>∃ o,h.get? a=some o∧o.cls=.ref C) where
 ty:=fun M h _ ⟨o,h1,h2⟩=>h2▸(PySem.W.Looks.ld h1).andThen .now
 it:=fun _ _ X _=>by
  have z:=F.ty
  unfold PySem.W.clsIn at z
  split at z
  ·rename_i c' d' cd' sl' ho
   intro A' Q' E' s' k q
   unfold isType loadHead
   exact Yd (wpAny_loadPart (k _ _ (X _ _ ho)) (Yf q))
  ·cases z
 ne:=fun h tp dd its n sl X htp=>by
  have z:=F.ty
  refine Bool.eq_false_iff.mpr fun q=>?_
  have e:C=tp:=Value.ref.inj (beq_iff_eq.mp q)
  subst e
  unfold PySem.W.clsIn at z
  split at z
  ·rename_i c' d' cd' sl' ho
   have y:=(X _ _ ho).symm.trans htp
   cases y
  ·cases z
 ca:=fun {prog w A E Q s} X p q=>by
  obtain⟨h,g,d,t,os⟩:=s
  obtain⟨o,h1,h2⟩:=p
  exact qa X F h1 h2 q
def Bf:V→Option Value
 | .ty T=>some (.type T)
 | .ref D=>some (.ref D)
 | _=>none
section
variable{X:Cx}
theorem vd{P:Program}{w:World}{H:Hp}{h:Heap}{a C:Addr}{dx:Option Addr}(ok:HOk P w H h)(e:H a=some (oN C a dx)):∃ o,h.get? a=some o∧o.cls=.ref C:=let ⟨o,z1,z2,_⟩:=(ok a _ e).1; ⟨o,z1,z2⟩
inductive rCall_isiXI(K:XC)(xs:List V)(H:Hp)(Q:VK):Prop | mk (a C:Addr) (dx:Option Addr) (cv:V) (c:Value) (b:Bool) (_:xs=[.ref a,cv]) (_:Bf cv=some c) (_:H a=some (oN C a dx)) (_:cA K C) (_:PySem.W.kitOne K (.ref C) c=some b) (_:Q (.bl b) H)
theorem j4:bU X (.builtin "isinstance") (rCall_isiXI X.K):=by
 intro pins s σ H xs us Q I r h
 obtain⟨a,C,dx,cv,c,b,rfl,hcv,ha,F,e,q⟩:=h
 obtain⟨u,u',rfl,rx,ry⟩:=gP r
 cases rx
 have hu:u'=c:=by
  cases cv with
  | ty T=>cases ry; exact Option.some.inj hcv
  | ref D=>cases ry; exact Option.some.inj hcv
  | _=>cases hcv
 subst hu
 exact PySem.W.kia_one (mq F) I.kIn (vd I.hok ha) e (fun z=>nomatch z) fun tk=>⟨.bl b,H,I.tok tk,rfl,q⟩
inductive rCall_isiXtI(K:XC)(xs:List V)(H:Hp)(Q:VK):Prop | mk (a C p:Addr) (dx:Option Addr) (ds:List Addr) (b:Bool) (_:xs=[.ref a,.ref p]) (_:H p=some (.tup (ds.map V.ref))) (_:H a=some (oN C a dx)) (_:cA K C) (_:PySem.W.kitAny K (.ref C) (ds.map Value.ref)=some b) (_:Q (.bl b) H)
theorem oE:bU X (.builtin "isinstance") (rCall_isiXtI X.K):=by
 intro pins s σ H xs us Q I r h
 obtain⟨a,C,p,dx,ds,b,rfl,hp,ha,F,e,q⟩:=h
 obtain⟨u,u',rfl,rx,ry⟩:=gP r
 cases rx
 cases ry
 obtain⟨_,its,rv,o,h1,h2,n,h3⟩:=I.hok p _ hp
 have hits:its=ds.map Value.ref:=by
  have : ∀ (ds:List Addr) (its:List Value),ap (ds.map V.ref) its→its=ds.map Value.ref:=by
   intro ds
   induction ds with
   | nil=>intro its r; cases r; rfl
   | cons x r ih=>intro its rr; cases rr with | cons y t=>cases y; rw [ih _ t]; rfl
  exact this ds its rv
 obtain⟨oc,od,odt,osl⟩:=o
 cases h2
 cases h3
 rw [hits] at h1
 exact PySem.W.kia_tup (mq F) I.kIn (vd I.hok ha) h1 e (fun z=>nomatch z) fun tk=>⟨.bl b,H,I.tok tk,rfl,q⟩
end
def aU(P:Program)(w:World)(K:XC)(mg:Str→Option Value)(base:Heap)(x:Str)(k:Nat)(ps:List Str)(sp:Sp):Prop:=
 ∃ f fd,mg x=some (.ref f)∧PySem.W.keepIn K (.ref f)=true∧cg K fd ps []∧cK P w K mg base (CX1 P w) k f fd ps sp
theorem pk{X:Cx}{E:XK}{x:Str}{k:Nat}{ps:List Str}{sp:Sp}{p pos:Pos}{e:Expr}{es:List Expr}{t:TA}(fr:bY X)(D:aU X.prog X.w X.K X.mg X.base x k ps sp)(hr:aI k X.A)(hg:Gl X x)(ha:PA (X.exc E) (e::es) t)
  (hdb:(x==("__debug__":Str))=false:=by decide) (he:starEach (e::es) X.env=(false,eval e X.env)::starEach es X.env:=by rfl) (hpl:(backTo pos (starEach es X.env)).any (·.1)=false:=by rfl) :
  PE (X.exc E) (.Call (.Name x p) (e::es) [] pos) (fM sp [] E t):=by
 obtain⟨f,fd,hm,hk,hb,F⟩:=D
 exact pv (X:=X.exc E) F hr hg hm hk hb .nil (wv fr) ha hdb he hpl
theorem AG{X:Cx}{x:Str}{k:Nat}{ps:List Str}{sp:Sp}{p pos:Pos}{e:Expr}{es:List Expr}{t:TA}(D:Def X.prog X.w X.K X.mg X.base x k ps sp)(hr:aI k X.A)(hg:Gl X x)(ha:PA X (e::es) t)
  (hdb:(x==("__debug__":Str))=false:=by decide) (he:starEach (e::es) X.env=(false,eval e X.env)::starEach es X.env:=by rfl) (hpl:(backTo pos (starEach es X.env)).any (·.1)=false:=by rfl) :
  PE X (.Call (.Name x p) (e::es) [] pos) (fM sp [] E0 t):=tN D hr hg ha hdb he hpl
theorem mE{X:Cx}{N':List Str}{scope:Scope}{cl:List (Str×Addr)}{C:Addr}{ex:List Addr}{s:Shared}{H:Hp}(f:bY X):bY (ak X N' scope cl C ex s H):=f
theorem ot{X:Cx}{pn:List (Addr×Obj)}(f:bY X):bY (X.pnd pn):=f
theorem ah.mkE{P:Program}{w:World}{K:XC}{mg:Str→Option Value}{base:Heap}{x:Str}{st:Stmt}{N ps:List Str}{k:Nat}{sp:Sp}(F:ah K mg x st ps)(S:aj N ps (ag st))(len:∀ vs H Q E,sp vs H Q E→vs.length=ps.length)
  (hbody:∀ (f:Addr) (cdv:Value) (A:Around) (outer:List Env) (s:Shared) (H:Hp) (vs:List V) (Q:VK) (E:XK),aI k (A.deeper (envOfC x (ag st) s.heap.objs.size f cdv))→sp vs H Q E→
   ∃ t,PSs ((jo (CX1 P w) P w K mg base N x (ag st) f cdv A outer s H E).exc E) (bg st) t∧t {nx:=fun _ H'=>Q .non H',rt:=Q} (b8 N vs) H):aU P w K mg base x (k+1) ps sp:=by
 obtain⟨f,fd,Fn,hm,hb⟩:=F.ex
 exact⟨f,fd,hm,Fn.kp,hb,Fn.okE S len (hbody f)⟩
section
variable{κ:Type}[DecidableEq κ]
def aW(kvs:List (κ×V))(k:κ):Option V:=(kvs.find? fun kv=>decide (kv.1=k)).map (·.2)
def cr(kvs:List (κ×V))(k:κ)(v:V):List (κ×V):=
 if (kvs.any fun kv=>decide (kv.1=k))=true then kvs.map (fun kv=>if kv.1=k then (kv.1,v) else kv) else kvs++[(k,v)]
theorem bu{p:κ×V}{r:List (κ×V)}{k:κ}(e:p.1=k):aW (p::r) k=some p.2:=by simp [aW,Xi,e]
theorem bx{p:κ×V}{r:List (κ×V)}{k:κ}(e:¬ p.1=k):aW (p::r) k=aW r k:=by simp [aW,Xi,e]
theorem fH(k:κ):∀ kvs:List (κ×V),(kvs.any fun kv=>decide (kv.1=k))=(aW kvs k).isSome
 | []=>rfl
 | p::r=>by
  rw [Y9]
  by_cases e:p.1=k
  ·simp only [bu e,decide_eq_true e,Bool.true_or,Option.isSome_some]
  ·rw [bx e,decide_eq_false e,Bool.false_or]; exact fH k r
theorem lp(k j:κ)(y:V):∀ kvs:List (κ×V),aW (kvs.map fun kv=>if kv.1=k then (kv.1,y) else kv) j=(aW kvs j).map fun x=>if j=k then y else x
 | []=>rfl
 | p::r=>by
  have ih:=lp k j y r
  rw [YA]
  by_cases h:p.1=k
  ·rw [if_pos h]
   by_cases e:p.1=j
   ·rw [bu (p:=(p.1,y)) e,bu e,Y0,if_pos (e.symm.trans h)]
   ·rw [bx (p:=(p.1,y)) e,bx e,ih]
  ·rw [if_neg h]
   by_cases e:p.1=j
   ·rw [bu (p:=p) e,bu e,Y0,if_neg (fun z=>h (e.trans z))]
   ·rw [bx (p:=p) e,bx e,ih]
theorem ju(k j:κ)(y:V):∀ kvs:List (κ×V),aW kvs k=none→aW (kvs++[(k,y)]) j=if j=k then some y else aW kvs j
 | [],_=>by
  by_cases e:k=j
  ·rw [if_pos e.symm]; exact bu (p:=(k,y)) e
  ·rw [if_neg (fun z=>e z.symm)]; exact bx (p:=(k,y)) e
 | p::r,hn=>by
  rw [List.cons_append]
  have hk:¬ p.1=k:=fun z=>by rw [bu z] at hn; cases hn
  rw [bx hk] at hn
  have ih:=ju k j y r hn
  by_cases e:p.1=j
  ·rw [bu e,bu e,if_neg (fun z=>hk (e.trans z))]
  ·rw [bx e,bx e,ih]
theorem d6(kvs:List (κ×V))(k j:κ)(y:V):aW (cr kvs k y) j=if j=k then some y else aW kvs j:=by
 unfold cr
 by_cases a:(kvs.any fun kv=>decide (kv.1=k))=true
 ·rw [if_pos a,lp]
  rw [fH] at a
  by_cases e:j=k
  ·obtain⟨x,hx⟩:=Option.isSome_iff_exists.mp a
   rw [if_pos e,e,hx,Y0,if_pos rfl]
  ·rw [if_neg e]
   cases aW kvs j with
   | none=>rfl
   | some x=>rw [Y0,if_neg e]
 ·rw [if_neg a]
  refine ju k j y kvs ?_
  rw [fH] at a
  cases q:aW kvs k with
  | none=>rfl
  | some x=>rw [q] at a; exact(a rfl).elim
theorem bE(kvs:List (κ×V))(k:κ)(v:V):(cr kvs k v).length≤kvs.length+1:=by
 unfold cr
 split
 ·rw [Yh]; omega
 ·rw [Yw,Ys,YR]; omega
theorem d5.isSome_eq{o:Option V}{u:Option Value}(r:d5 o u):o.isSome=u.isSome:=by
 cases o with
 | none=>cases u with
  | none=>rfl
  | some _=>exact(show False from r).elim
 | some _=>cases u with
  | none=>exact(show False from r).elim
  | some _=>rfl
theorem d5.getD{o:Option V}{u:Option Value}{d:V}{d':Value}(r:d5 o u)(rd:aq d d'):aq (o.getD d) (u.getD d'):=by
 cases o with
 | none=>cases u with
  | none=>exact rd
  | some _=>exact(show False from r).elim
 | some _=>cases u with
  | none=>exact(show False from r).elim
  | some _=>exact r
theorem KV.val{kvs:List (κ×V)}{vs:List (κ×Value)}(r:KV kvs vs)(k:κ):d5 (aW kvs k) (valueAt vs k):=by
 unfold KV at r
 induction r with
 | nil=>exact True.intro
 | @cons p q ps qs h t ih=>
  obtain⟨h1,h2⟩:=h
  by_cases e:p.1=k
  ·have e':q.1=k:=h1.symm.trans e
   have b:valueAt (q::qs) k=some q.2:=by simp [valueAt,Xi,e']
   rw [bu e,b]; exact h2
  ·have e':¬ q.1=k:=fun z=>e (h1.trans z)
   have b:valueAt (q::qs) k=valueAt qs k:=by simp [valueAt,Xi,e']
   rw [bx e,b]; exact ih
theorem KV.any{kvs:List (κ×V)}{vs:List (κ×Value)}(r:KV kvs vs)(k:κ):(kvs.any fun kv=>decide (kv.1=k))=vs.any fun kv=>decide (kv.1=k):=by
 unfold KV at r
 induction r with
 | nil=>rfl
 | cons h t ih=>rw [Y9,Y9,ih,h.1]
theorem KV.repl{kvs:List (κ×V)}{vs:List (κ×Value)}(r:KV kvs vs)(k:κ){y:V}{u:Value}(ry:aq y u):
  KV (kvs.map fun kv=>if kv.1=k then (kv.1,y) else kv) (vs.map fun kv=>if kv.1=k then (kv.1,u) else kv):=by
 unfold KV at r ⊢
 induction r with
 | nil=>exact .nil
 | @cons p q ps qs h t ih=>
  rw [YA,YA]
  refine .cons ?_ ih
  obtain⟨h1,h2⟩:=h
  by_cases e:p.1=k
  ·rw [if_pos e,if_pos (h1.symm.trans e)]; exact⟨h1,ry⟩
  ·rw [if_neg e,if_neg (fun z=>e (h1.trans z))]; exact⟨h1,h2⟩
theorem KV.put{kvs:List (κ×V)}{vs:List (κ×Value)}(r:KV kvs vs)(k:κ){y:V}{u:Value}(ry:aq y u):KV (cr kvs k y) (stored vs k u):=by
 unfold cr stored
 rw [r.any k]
 by_cases e:(vs.any fun kv=>decide (kv.1=k))=true
 ·rw [if_pos e,if_pos e]; exact r.repl k ry
 ·rw [if_neg e,if_neg e]; exact Paired.snoc r ⟨rfl,ry⟩
theorem KV.keys{kvs:List (κ×V)}{vs:List (κ×Value)}(r:KV kvs vs):kvs.map (·.1)=vs.map (·.1):=by
 unfold KV at r
 induction r with
 | nil=>rfl
 | cons h t ih=>rw [YA,YA,ih,h.1]
theorem KV.length{kvs:List (κ×V)}{vs:List (κ×Value)}(r:KV kvs vs):kvs.length=vs.length:=Paired.length r
end
theorem jQ{P:Program}{w:World}{k:Key}{u:Value}(r:aq (kV k) u):(az P w).is k u=true:=by
 cases k with
 | inl i=>obtain⟨t,e⟩:=(show ∃ t,u=Value.int i t from r); subst e; exact mi P w i t
 | inr x=>obtain⟨t,e⟩:=(show ∃ t,u=Value.str x t from r); subst e; exact mf P w x t
theorem jS{P:Program}{w:World}:∀ {ks:List Key} {us:List Value},ap (ks.map kV) us→ItemsAre (az P w) ks us
 | [],_,r=>by rw [List.map_nil] at r; cases r; exact .nil
 | k::ks,_,r=>by
  rw [YA] at r
  cases r with
  | cons h t=>exact .cons (jQ h) (jS t)
abbrev KT(H:Hp):List (List Key×V)→List (List Key×Addr×Value)→Prop:=Paired fun p q=>p.1=q.1∧H q.2.1=some (.tup (p.1.map kV))∧aq p.2 q.2.2
theorem KT.val{H:Hp}{kvs:List (List Key×V)}{xs:List (List Key×Addr×Value)}(r:KT H kvs xs)(k:List Key):d5 (aW kvs k) ((atKey xs k).map (·.2)):=by
 induction r with
 | nil=>exact True.intro
 | @cons p q ps qs h t ih=>
  obtain⟨h1,_,h2⟩:=h
  by_cases e:p.1=k
  ·have e':q.1=k:=h1.symm.trans e
   have b:atKey (q::qs) k=some q.2:=by simp [atKey,Xi,e']
   rw [bu e,b]; exact h2
  ·have e':¬ q.1=k:=fun z=>e (h1.trans z)
   have b:atKey (q::qs) k=atKey qs k:=by simp [atKey,Xi,e']
   rw [bx e,b]; exact ih
theorem KT.repl{H:Hp}{kvs:List (List Key×V)}{xs:List (List Key×Addr×Value)}(r:KT H kvs xs)(k:List Key){y:V}{u:Value}(ry:aq y u):
  KT H (kvs.map fun kv=>if kv.1=k then (kv.1,y) else kv) (xs.map (putAt k u)):=by
 induction r with
 | nil=>exact .nil
 | @cons p q ps qs h t ih=>
  rw [YA,YA]
  refine .cons ?_ ih
  obtain⟨h1,h2,h3⟩:=h
  unfold putAt
  by_cases e:p.1=k
  ·rw [if_pos e,if_pos (h1.symm.trans e)]; exact⟨h1,h2,ry⟩
  ·rw [if_neg e,if_neg (fun z=>e (h1.trans z))]; exact⟨h1,h2,h3⟩
theorem KT.put{H:Hp}{kvs:List (List Key×V)}{xs:List (List Key×Addr×Value)}(r:KT H kvs xs)(k:List Key){b:Addr}{y:V}{u:Value}(hb:H b=some (.tup (k.map kV)))(ry:aq y u):
  KT H (cr kvs k y) (storedH xs k b u):=by
 have e:(kvs.any fun kv=>decide (kv.1=k))=(atKey xs k).isSome:=by
  rw [fH,(r.val k).isSome_eq,Option.isSome_map]
 unfold cr storedH
 rw [e]
 by_cases q:(atKey xs k).isSome=true
 ·rw [if_pos q,if_pos q]; exact r.repl k ry
 ·rw [if_neg q,if_neg q]; exact Paired.snoc r ⟨rfl,hb,ry⟩
theorem KT.keeps{H H':Hp}{kvs:List (List Key×V)}{xs:List (List Key×Addr×Value)}(r:KT H kvs xs)(ht:∀ b ys,H b=some (.tup ys)→H' b=some (.tup ys)):KT H' kvs xs:=
 Paired.mapP r fun _ _ z=>⟨z.1,ht _ _ z.2.1,z.2.2⟩
section
variable{P:Program}{w:World}{H:Hp}{h:Heap}{a:Addr}
theorem xO{u:HO}(ok:HOk P w H h)(e:Rd H a u):aB P w H h a u:=e.ok ok
theorem j2{kvs:List (Key×V)}(ok:HOk P w H h)(e:Rd H a (.dK kvs)):kvs.length≤sizeLine∧(a==sysModules)=false∧∃ vs,KV kvs vs∧h.DictOf (az P w) a vs:=
 show aB P w H h a (.dK kvs) from xO ok e
theorem xW{kvs:List (Key×V)}(ok:HOk P w H h)(e:H a=some (.dK kvs)):kvs.length≤sizeLine∧(a==sysModules)=false∧∃ vs,KV kvs vs∧h.DictOf (az P w) a vs:=j2 ok (.inl e)
theorem iZ{ks:List Key}(ok:HOk P w H h)(e:H a=some (.tup (ks.map kV))):(tupleKind (az P w)).is h ks a:=by
 obtain⟨_,its,r,o,h1,h2,n,h3⟩:=(show aB P w H h a (.tup (ks.map kV)) from ok a _ e)
 exact⟨o,its.toArray,n,h1,h2,h3,by simpa using jS r⟩
theorem j1{kvs:List (List Key×V)}(ok:HOk P w H h)(e:Rd H a (.dT kvs)):kvs.length≤sizeLine∧(a==sysModules)=false∧
  ∃ xs,KT H kvs xs∧h.DictOfH (tupleKind (az P w)) a xs:=by
 obtain⟨z,y,xs,r,o,es,ep,h1,h2,h3,h4,h5⟩:=(show aB P w H h a (.dT kvs) from xO ok e)
 refine⟨z,y,xs,r,o,es,ep,h1,h2,h3,h4,fun x hx=>?_,h5⟩
 have all:∀ {l:List (List Key×V)} {m:List (List Key×Addr×Value)},KT H l m→∀ x∈m,(tupleKind (az P w)).is h x.1 x.2.1:=by
  intro l m q
  induction q with
  | nil=>intro x hx; exact nomatch hx
  | @cons p q ps qs hq t ih=>
   intro x hx
   rcases Yr.mp hx with e | hx
   ·subst e
    exact iZ ok (by rw [← hq.1]; exact hq.2.1)
   ·exact ih x hx
 exact all r x hx
theorem Aw{kvs:List (List Key×V)}(ok:HOk P w H h)(e:H a=some (.dT kvs)):kvs.length≤sizeLine∧(a==sysModules)=false∧
  ∃ xs,KT H kvs xs∧h.DictOfH (tupleKind (az P w)) a xs:=j1 ok (.inl e)
end
def dX(H:Hp)(a:Addr)(y:V)(r:Option V):Prop:=
 (∃ kvs k,Rd H a (.dK kvs)∧y=kV k∧r=aW kvs k)∨∃ kvs k b,Rd H a (.dT kvs)∧y=.ref b∧H b=some (.tup (k.map kV))∧r=aW kvs k
def oO(H:Hp)(a:Addr)(y v:V)(H':Hp):Prop:=
 (∃ kvs k,H a=some (.dK kvs)∧y=kV k∧kvs.length<sizeLine∧H'=upd H a (.dK (cr kvs k v)))∨
 ∃ kvs k b,H a=some (.dT kvs)∧y=.ref b∧H b=some (.tup (k.map kV))∧kvs.length<sizeLine∧H'=upd H a (.dT (cr kvs k v))
theorem dX.k{H:Hp}{a:Addr}{kvs:List (Key×V)}{k:Key}(e:H a=some (.dK kvs)):dX H a (kV k) (aW kvs k):=.inl ⟨kvs,k,.inl e,rfl,rfl⟩
theorem oO.k{H:Hp}{a:Addr}{kvs:List (Key×V)}{k:Key}{v:V}(e:H a=some (.dK kvs))(hl:kvs.length<sizeLine):oO H a (kV k) v (upd H a (.dK (cr kvs k v))):=.inl ⟨kvs,k,e,rfl,hl,rfl⟩
section
variable{X:Cx}{pins:List (Addr×Obj)}{σ:St}{H:Hp}{s:Shared}{a:Addr}{y v:V}{u r:Value}{o:Option V}{A:Around}{E:Value→Shared→Prop}
theorem Inv.big(I:Inv X pins σ H s):sysModules<s.heap.objs.size:=by
 have h:mainGlobals<s.heap.objs.size:=(I.mod.glob.keeps I.bk).lt
 exact Nat.lt_trans (by decide) h
theorem q9{Q:Value→Shared→Prop}(hu:A.units+1<cLine)(I:Inv X pins σ H s)(g:dX H a y (some v))(ry:aq y u)(h:∀ w' s',Inv X pins σ H s'→aq v w'→Q w' s'):
  wpAny (model X.prog X.w) A (getItem (.ref a) u) Q E s:=by
 rcases g with ⟨kvs,k,e,ey,l⟩ | ⟨kvs,k,b,e,ey,eb,l⟩
 ·subst ey
  obtain⟨z,hd,vs,rel,dd⟩:=j2 I.hok e
  obtain⟨w',hw,rw'⟩:=d5.some_of (v:=v) (o:=valueAt vs k) (by rw [l]; exact rel.val k)
  exact wpAny_getItem_of (jQ ry) dd.mapOf hw (h w' _ (I.tok _) rw')
 ·subst ey
  cases (show u=Value.ref b from ry)
  obtain⟨z,hd,xs,rel,dd⟩:=j1 I.hok e
  obtain⟨w',hw,rw'⟩:=d5.some_of (v:=v) (o:=(atKey xs k).map (·.2)) (by rw [l]; exact rel.val k)
  obtain⟨p,hp,hp2⟩:=Yx.mp hw
  refine wpAny_getItem_heap (tupleKind_room_in1 hu) (iZ I.hok eb) dd hp ?_
  rw [hp2]
  exact h w' _ (I.tok _) rw'
theorem xr{Q:Value→Shared→Prop}(hu:A.units+1<cLine)(I:Inv X pins σ H s)(g:dX H a y o)(ry:aq y u)(h:∀ s',Inv X pins σ H s'→Q (.bool (!o.isSome)) s'):
  wpAny (model X.prog X.w) A (compareOp .NotIn u (.ref a)) Q E s:=by
 rcases g with ⟨kvs,k,e,ey,l⟩ | ⟨kvs,k,b,e,ey,eb,l⟩
 ·subst ey
  obtain⟨z,hd,vs,rel,dd⟩:=j2 I.hok e
  refine wpAny_notIn_of (jQ ry) hd dd.mapOf ?_
  rw [← (rel.val k).isSome_eq,← l]
  exact h _ (I.tok _)
 ·subst ey
  cases (show u=Value.ref b from ry)
  obtain⟨z,hd,xs,rel,dd⟩:=j1 I.hok e
  refine wpAny_notIn_heap (tupleKind_room_in1 hu) (iZ I.hok eb) hd dd ?_
  have q:=(rel.val k).isSome_eq
  rw [Option.isSome_map] at q
  rw [← q,← l]
  exact h _ (I.tok _)
theorem pQ{h':Heap}{t':Nat}{ob:HO}(I:Inv X pins σ H s)(mu:Mut (H a))(hs:YX a s.heap h')(he:∃ q,h'.get? a=some q)(new:aB X.prog X.w (upd H a ob) h' a ob):
  Inv X pins σ (upd H a ob) {s with heap:=h',toks:=t'}:=
 I.write (x:=a) (e:=a) mu (.inl rfl) (fun b q hb z=>(hs.2 b hb).trans z) he new
theorem zp{P:Program}{w:World}{H':Hp}{h':Heap}{kvs:List (Key×V)}{vs:List (Key×Value)}(z:kvs.length≤sizeLine)(hd:(a==sysModules)=false)(rel:KV kvs vs)(dd:h'.DictOf (az P w) a vs):
  aB P w H' h' a (.dK kvs):=⟨z,hd,vs,rel,dd⟩
theorem q8{H':Hp}{Q:Unit→Shared→Prop}(hu:A.units+1<cLine)(I:Inv X pins σ H s)(g:oO H a y v H')(ry:aq y u)(rv:aq v r)(h:∀ s',Inv X pins σ H' s'→Q () s'):
  wpAny (model X.prog X.w) A (setItem (.ref a) u r) Q E s:=by
 rcases g with ⟨kvs,k,e,ey,l,eH⟩ | ⟨kvs,k,b,e,ey,eb,l,eH⟩
 ·subst ey eH
  obtain⟨z,hd,vs,rel,dd⟩:=xW I.hok e
  have hz:vs.length≤sizeLine:=by rw [← rel.length]; exact z
  have hl:(cr kvs k v).length≤sizeLine:=by have:=bE kvs k v; omega
  refine wpAny_setItem_pairs (hsz:=hz) (jQ ry) dd fun h' dd' hs=>h _ ?_
  have he:∃ q,h'.get? a=some q:=let ⟨q,_,_,hq,_⟩:=dd'; ⟨q,hq⟩
  exact pQ I (by rw [e]; exact True.intro) hs he (zp hl hd (rel.put k rv) dd')
 ·subst ey eH
  cases (show u=Value.ref b from ry)
  obtain⟨z,hd,xs,rel,dd⟩:=Aw I.hok e
  have hz:xs.length≤sizeLine:=by rw [← Paired.length rel]; exact z
  have hl:(cr kvs k v).length≤sizeLine:=by have:=bE kvs k v; omega
  refine wpAny_setItem_heap (hsz:=hz) (tupleKind_room_in1 hu) (iZ I.hok eb) dd fun h' dd' hs=>h _ ?_
  obtain⟨q,es,ep,hq,h2,h3,h4,_,h5⟩:=dd'
  refine pQ I (by rw [e]; exact True.intro) hs ⟨q,hq⟩ ⟨hl,hd,_,(rel.put k eb rv).keeps fun c ys ec=>?_,q,es,ep,hq,h2,h3,h4,h5⟩
  rw [ac (Al ec e (fun z=>nomatch z))]
  exact ec
end
section
variable{X:Cx}{pins:List (Addr×Obj)}{σ:St}{H:Hp}{s:Shared}{a:Addr}{kvs:List (Key×V)}{k:Key}{u:Value}{A:Around}{E:Value→Shared→Prop}
end
def AE(i:Expr):Prop:=∀ ov iv,subscripted i false ov iv=operate [ov,iv] (getItem ov iv)
theorem vL{prog:Program}{w:World}{A:Around}{E:Value→Shared→Prop}{s:Shared}{env:Env}{value slice:Expr}{pos:Pos}{T id:String}{Q:Value→Shared→Prop}
  (hl:typeLookup (.type T) "__getitem__"=pure (some (.builtin id))) (hs:AE slice)
  (h:wpAny (model prog w) A (eval value env) (fun o s₁=>wpAny (model prog w) A (eval slice env) (fun i s₂=>s₂.TypeIs o T∧wpAny (model prog w) A (getItem o i) Q E s₂) E s₁) E s) :
  wpAny (model prog w) A (eval (.Subscript value slice pos) env) Q E s:=by
 refine Subscript_ (Ym h (fun o s₁ h₁=>Ym h₁ (fun i s₂ h₂=>?_) fun _ _ x=>x) fun _ _ x=>x)
 obtain⟨hT,h₂⟩:=h₂
 unfold subscriptTail
 refine Yd ?_
 rw [getitemInPython_of_ne hT.not_modules]
 refine Yd (wpAny_specialOf hT hl ?_)
 have fin:wpAny (model prog w) A (subscripted slice false o i) (fun r s₃=>wpAny (model prog w) A (letTemporaryGo value o r>>=fun _=>pure r) Q E s₃) E s₂:=by
  rw [hs o i]
  exact wpAny_operating (Ym h₂ (fun r s₃ h₃=>Yd (wpAny_letTemporaryGo (Yf h₃))) fun _ _ x=>x)
 first
  | exact Yf (Yd fin)
  | exact Yd (Yf (Yd fin))
  | exact Yd fin
theorem mJ{X:Cx}{pins:List (Addr×Obj)}{σ:St}{H:Hp}{s:Shared}{a:Addr}{y:V}{o:Option V}(I:Inv X pins σ H s)(g:dX H a y o):s.TypeIs (.ref a) "dict":=by
 rcases g with ⟨kvs,k,e,_,_⟩ | ⟨kvs,k,b,e,_,_,_⟩
 ·obtain⟨_,_,vs,_,dd⟩:=j2 I.hok e
  exact dd.typeIs
 ·obtain⟨_,_,xs,_,dd⟩:=j1 I.hok e
  exact dd.typeIs
inductive tDGetI(Q:VK)(x y:V)(H2:Hp):Prop | mk (a v) (_:x=.ref a) (_:dX H2 a y (some v)) (_:Q v H2)
def zR(td ty:TE):TE:=fun σ H Q=>td σ H fun x H1=>ty σ H1 (tDGetI Q x)
inductive tDNotInI(Q:VK)(y x:V)(H2:Hp):Prop | mk (a o) (_:x=.ref a) (_:dX H2 a y o) (_:Q (.bl (!o.isSome)) H2)
def vK(ty td:TE):TE:=fun σ H Q=>ty σ H fun y H1=>td σ H1 (tDNotInI Q y)
inductive sDPutI(D:dJ)(σ:St)(v x y:V)(H3:Hp):Prop | mk (a H4) (_:x=.ref a) (_:oO H3 a y v H4) (_:D.nx σ H4)
def zW(td ty tv:TE):TS:=fun D σ H=>tv σ H fun v H1=>td σ H1 fun x H2=>ty σ H2 (sDPutI D σ v x)
section
variable{X:Cx}{o i e value:Expr}{pos pos' tpos:Pos}{td ty tv:TE}
theorem wo(hu:X.A.units+1<cLine)(ho:PE X o td)(hi:PE X i ty)(hs:AE i):PE X (.Subscript o i pos) (zR td ty):=by
 intro pins s σ H Q I h
 refine vL PySem.F.slot_dict_getitem.lookup hs (thn (ho pins s σ H _ I h) fun u s1 ⟨x,H1,I1,rx,q1⟩=>thn (hi pins s1 σ H1 _ I1 q1) fun iv s2 ⟨y,H2,I2,ry,a,v,ex,g,q2⟩=>?_)
 subst ex
 obtain rfl:u=Value.ref a:=rx
 exact⟨mJ I2 g,q9 hu I2 g ry fun w' s3 I3 rw'=>⟨v,H2,I3,rw',q2⟩⟩
theorem qD(hu:X.A.units+1<cLine)(hi:PE X i ty)(ho:PE X o td):PC X .NotIn i o (vK ty td):=by
 intro pins s σ H Q I h
 refine thn (hi pins s σ H _ I h) fun iv s1 ⟨y,H1,I1,ry,q1⟩=>thn (ho pins s1 σ H1 _ I1 q1) fun u s2 ⟨x,H2,I2,rx,a,ov,ex,g,q2⟩=>?_
 subst ex
 obtain rfl:u=Value.ref a:=rx
 exact xr hu I2 g ry fun s3 I3=>⟨.bl (!ov.isSome),H2,I3,rfl,q2⟩
theorem vY(hu:X.A.units+1<cLine)(ho:PE X o td)(hi:PE X i ty)(hv:PE X value tv)(hs:swapsWith value (some (.Subscript o i pos')) pos.line X.env=pure false):
  PS X (.Assign [.Subscript o i pos'] value pos) (zW td ty tv):=by
 intro pins s σ H D I h
 refine wpAny_Assign_Subscript (thn (hv pins s σ H _ I h) fun r s1 ⟨v,H1,I1,rv,q1⟩=>thn (ho pins s1 σ H1 _ I1 q1) fun u s2 ⟨x,H2,I2,rx,q2⟩=>thn (hi pins s2 σ H2 _ I2 q2) fun iv s3 ⟨y,H3,I3,ry,a,H4,ex,g,q3⟩=>?_) hs
 subst ex
 obtain rfl:u=Value.ref a:=rx
 exact q8 hu I3 g ry rv fun s4 I4=>⟨σ,H4,I4,q3⟩
end
theorem vi{P:Program}{w:World}{H:Hp}(h:Heap)(hb:sysModules<h.objs.size):aB P w H (h.push {cls:=.type "dict",data:=.dict #[]}) h.objs.size (.dK []):=
 ⟨Yy _,beq_eq_false_iff_ne.mpr (Ne.symm (Yu hb)),[],.nil,Heap.DictOf.new h⟩
def yd:TE:=fun _ H Q=>∀ p,H p=none→Q (.ref p) (upd H p (.dK []))
section
variable{X:Cx}{pos:Pos}
theorem tK:PE X (.Dict [] [] pos) yd:=fun pins s σ H Q I h=>
 wpAny_Dict_empty ⟨.ref s.heap.objs.size,_,I.laid (a:=s.heap.objs.size) (o:=.dK []) (t':=s.toks) (fun _ _ q=>Ye _ q) (Yg _) (vi s.heap I.big),rfl,h _ (I.hok.fresh (Yg _))⟩
end
structure M1(X:Cx)(o:Expr)(m:Str)(apos:Pos)(e:Expr)(cpos:Pos):Prop where
 base:attributeBase o m X.env (eval o X.env)=eval o X.env
 few:((backTo cpos (starEach [e] X.env)).all (fun x=>!x.1)&&(backToKw cpos (keywordEach [] X.env)).all (fun x=>x.1.isSome)
  && decide (([e]:List Expr).length+([]:List Keyword).length+(if ([]:List Keyword).isEmpty then 0 else 1)<30))=true
 line:(apos.endLine==cpos.line)=true
 trees:backTo cpos (starEach [e] X.env)=[(false,eval e X.env)]
structure M2(X:Cx)(o:Expr)(m:Str)(apos:Pos)(e f:Expr)(cpos:Pos):Prop where
 base:attributeBase o m X.env (eval o X.env)=eval o X.env
 few:((backTo cpos (starEach [e,f] X.env)).all (fun x=>!x.1)&&(backToKw cpos (keywordEach [] X.env)).all (fun x=>x.1.isSome)
  && decide (([e,f]:List Expr).length+([]:List Keyword).length+(if ([]:List Keyword).isEmpty then 0 else 1)<30))=true
 line:(apos.endLine==cpos.line)=true
 trees:backTo cpos (starEach [e,f] X.env)=[(false,eval e X.env),(false,eval f X.env)]
def IsD(H:Hp)(a:Addr):Prop:=(∃ kvs,Rd H a (.dK kvs))∨∃ kvs,Rd H a (.dT kvs)
theorem zg{X:Cx}{pins:List (Addr×Obj)}{σ:St}{H:Hp}{s:Shared}{a:Addr}(I:Inv X pins σ H s)(d:IsD H a):
  s.TypeIs (.ref a) "dict"∧(∀ b,Value.ref a=.ref b→∃ ob,s.heap.get? b=some ob∧ob.dict=none)∧(a==sysModules)=false:=by
 rcases d with ⟨kvs,e⟩ | ⟨kvs,e⟩
 ·obtain⟨_,hd,vs,_,dd⟩:=j2 I.hok e
  refine⟨dd.typeIs,fun b q=>?_,hd⟩
  cases q
  obtain⟨ob,_,_,h1,h2,_⟩:=dd
  exact⟨ob,h1,h2.2.1⟩
 ·obtain⟨_,hd,xs,_,dd⟩:=j1 I.hok e
  refine⟨dd.typeIs,fun b q=>?_,hd⟩
  cases q
  obtain⟨ob,_,_,h1,h2,_⟩:=dd
  exact⟨ob,h1,h2.2.1⟩
section
variable{X:Cx}{pins:List (Addr×Obj)}{σ:St}{H:Hp}{s:Shared}{a:Addr}{y d:V}{u r:Value}{o:Option V}{A:Around}{E:Value→Shared→Prop}
theorem zq{Q:Value→Shared→Prop}(hu:A.units+1<cLine)(I:Inv X pins σ H s)(g:dX H a y o)(ry:aq y u)(h:∀ w' s',Inv X pins σ H s'→aq (o.getD .non) w'→Q w' s'):
  wpAny (model X.prog X.w) A (call (.builtin "dict.get") [.ref a,u]) Q E s:=by
 rcases g with ⟨kvs,k,e,ey,l⟩ | ⟨kvs,k,b,e,ey,eb,l⟩
 ·subst ey
  obtain⟨z,hd,vs,rel,dd⟩:=j2 I.hok e
  refine call_meetsIn PySem.F.slot_dict_get dd.typeIs PySem.F.entry_dict_get (PySem.F.args_dict_get_2 _ _) (meets_dict_get (az X.prog X.w) a (jQ ry) hd) ⟨_,dd.mapOf,h _ _ (I.tok _) ?_⟩
  rw [l]
  exact(rel.val k).getD rfl
 ·subst ey
  cases (show u=Value.ref b from ry)
  obtain⟨z,hd,xs,rel,dd⟩:=j1 I.hok e
  refine call_meetsIn PySem.F.slot_dict_get dd.typeIs PySem.F.entry_dict_get (PySem.F.args_dict_get_2 _ _) (meetsH_dict_get (tupleKind (az X.prog X.w)) a b hd) ⟨tupleKind_room_in1 hu,k,xs,iZ I.hok eb,dd,h _ _ (I.tok _) ?_⟩
  rw [l]
  exact(rel.val k).getD rfl
end
inductive tDGet1I(ty:TE)(σ:St)(Q:VK)(x:V)(H1:Hp):Prop | mk (a) (_:x=.ref a) (_:IsD H1 a) (_:ty σ H1 fun y H2=>∃ o,dX H2 a y o∧Q (o.getD .non) H2)
def ye(td ty:TE):TE:=fun σ H Q=>td σ H (tDGet1I ty σ Q)
section
variable{X:Cx}{o e f:Expr}{apos cpos:Pos}{td ty tx:TE}
theorem tM(hu:X.A.units+1<cLine)(ho:PE X o td)(he:PE X e ty)(m:M1 X o "get" apos e cpos):PE X (.Call (.Attribute o "get" apos) [e] [] cpos) (ye td ty):=by
 intro pins s σ H Q I h
 refine wpAny_Call_method m.base m.few m.line PySem.F.plainAttrs_dict PySem.F.slot_dict_get PySem.F.type_dict_get (thn (ho pins s σ H _ I h) fun u s1 ⟨x,H1,I1,rx,a,ex,d,q1⟩=>?_)
 subst ex
 obtain rfl:u=Value.ref a:=rx
 obtain⟨t1,t2,_⟩:=zg I1 d
 refine⟨t1,t2,?_⟩
 rw [m.trees]
 refine Calls.callWith_builtin rfl (Calls.evalArgs_plain (Calls.spliced_cons (thn (he pins s1 σ H1 _ I1 q1) fun iv s2 ⟨y,H2,I2,ry,ov,g,q2⟩=>Calls.spliced_nil ?_)))
 exact zq hu I2 g ry fun w' s3 I3 rw'=>⟨_,H2,I3,rw',q2⟩
end
section
variable{X:Cx}{pins:List (Addr×Obj)}{σ:St}{H:Hp}{s:Shared}{a:Addr}{kvs:List (Key×V)}{A:Around}{E:Value→Shared→Prop}
end
section
variable{X:Cx}{pins:List (Addr×Obj)}{σ:St}{H:Hp}{s:Shared}{a:Addr}{y:V}{u:Value}{A:Around}{E:Value→Shared→Prop}
end
section
variable{κ:Type}[DecidableEq κ]
end
theorem eR{prog:Program}{w:World}{A:Around}{R:Result→Shared→Prop}{s:Shared}{elt cnd target iter:Expr}{scope:Scope}{pos:Pos}{it acc:Value}{env:Env}(I:Nat→Shared→Prop)
  (turn:∀ n s,I n s→wpAny (model prog w) A (pyNext it) (fun r s1=>match r with
   | none=>R (.ok .next) s1
   | some v=>wpAny (model prog w) A (letOwnedTupleGo target it v) (fun _ s1'=>wpAny (model prog w) A (assign target env v) (fun _ s2=>
     wpAny (model prog w) A (isTrue cnd env (eval cnd env)) (fun b s3=>if b=true then wpAny (model prog w) A (eval elt env) (fun x s4=>
       wpAny (model prog w) A (call (.builtin "list.append") [acc,x]) (fun _ s5=>∃ m,m<n∧I m s5) (notedBy (model prog w) A env fun e s'=>R (.error e) s') s4) (notedBy (model prog w) A env fun e s'=>R (.error e) s') s3 else ∃ m,m<n∧I m s3) (notedBy (model prog w) A env fun e s'=>R (.error e) s') s2)
     (notedBy (model prog w) A env fun e s'=>R (.error e) s') s1') (notedBy (model prog w) A env fun e s'=>R (.error e) s') s1) (notedBy (model prog w) A env fun e s'=>R (.error e) s') s)
  (n:Nat) (h:I n s):codeAny (model prog w) A (.compLoop (.ListComp elt [⟨target,iter,[cnd],0⟩] scope pos) 0 it acc env) R s:=by
 refine codeAny_loop rfl I (fun n s hI=>?_) n h
 show wpAny _ A ((compTurn (.ListComp elt [⟨target,iter,[cnd],0⟩] scope pos) 0 it acc env).onRaise (fun x=>do noteFrame x env; theTreesLotGoes x)) _ _ s
 refine wpAny_noted ?_
 rw [compTurn_list]
 refine Yd (wpAny_standAt (Yd (Ym (turn n s hI) (fun r s1 h1=>?_) fun _ _ h'=>h')))
 cases r with
 | none=>exact Yf h1
 | some v=>
  refine Yd (Ym h1 (fun _ s1' h1'=>?_) fun _ _ h'=>h')
  refine Yd (Ym h1' (fun _ s2 h2=>Yd (Ym (wpAny_tests_one h2) (fun ok s3 h3=>?_) fun _ _ h'=>h')) fun _ _ h'=>h')
  cases ok with
  | true=>exact Yd (Yd (Ym h3 (fun x s4 h4=>Yd (Ym h4 (fun _ s5 h5=>Yf (Yf ⟨rfl,h5⟩)) fun _ _ h'=>h')) fun _ _ h'=>h'))
  | false=>exact Yd (Yf (Yf ⟨rfl,h3⟩))
def pZ(n:Nat)(J:It)(g:TG)(tc:TT)(te:TE)(σ:St)(H:Hp)(Q:VK):Prop:=
 ∃ W:Nat→Nat→List V→St→Hp→Prop,(∃ m,W 0 m [] (List.replicate n none++σ) H)∧∀ i m ys σ' H,W i m ys σ' H→
  (J.stop i H∧∀ D,H D=none→Q (.ref D) (upd H D (.lst ys)))∨
  (J.go i H∧ys.length<sizeLine∧∀ x H',J.yld i H x H'→g x σ' H' fun σ2 H2=>tc σ2 H2 fun b H3=>if b=true then ∃ N:VK,te σ2 H3 N∧∀ v H4,N v H4→∃ m',m'<m∧W (i+1) m' (ys++[v]) σ2 H4 else ∃ m',m'<m∧W (i+1) m' ys σ2 H3)
def sf(n:Nat)(wi:TI)(g:au TG)(tc:au TT)(te:au TE):TE:=fun σ H Q=>wi σ H fun J H1=>∀ cl C ex s Hc,pZ n J (g cl C ex s Hc) (tc cl C ex s Hc) (te cl C ex s Hc) σ H1 Q
section
variable{X:Cx}{n:Nat}{N':List Str}{scope:Scope}{elt cnd tg iter:Expr}{pos:Pos}{pins:List (Addr×Obj)}{σ:St}{H2:Hp}{s2:Shared}{cl:List (Str×Addr)}
theorem mK{E0:XK}{it:Addr}{fp:List Addr}{tn:Nat→Heap→Prop}{J:It}{g:au TG}{tc:au TT}{te:au TE}{Q:VK}{E:Value→Shared→Prop}
  (hc:X.calm=true) (S:aE n N' X scope) (c1:∀ x c,cl.lookup x=some c→X.env.cells.lookup x=some c) (c2:∀ x∈scope.names,x.2=.free→∃ c,cl.lookup x.1=some c)
  (I2:Inv X pins σ H2 s2) (T:hV X.prog X.w X.K tg J fp it tn) (st2:tn 0 s2.heap) (f2:∀ b∈fp,dy X pins H2 b)
  (hg:∀ cl C ex s H,PG ((ak X N' scope cl C ex s H).exc E0) tg (g cl C ex s H)) (hcn:∀ cl C ex s H,PT ((ak X N' scope cl C ex s H).exc E0) cnd (tc cl C ex s H)) (he:∀ cl C ex s H,PE ((ak X N' scope cl C ex s H).exc E0) elt (te cl C ex s H))
  (cok:∀ cl C ex s Hc,pZ n J (g cl C ex s Hc) (tc cl C ex s Hc) (te cl C ex s Hc) σ H2 Q) :
  wpAny (model X.prog X.w) X.A (newList []) (fun acc s3=>wpAny (model X.prog X.w) X.A (newFunctionEnv scope X.env.globals cl [] X.env.qual none .none (some X.env)) (fun cenv s4=>
   codeAny (model X.prog X.w) X.A (.compStart (.ListComp elt [⟨tg,iter,[cnd],0⟩] scope pos) 0 (.ref it) acc {cenv with scope:=relabel scope X.env})
    (fun r s'=>match r with | .ok _=>bp X pins σ Q acc cenv.locals s' | .error x=>bI (ak X N' scope cl cenv.locals fp s2 H2) E0 x s') s4) E s3) E s2:=by
 have fl:∀ b∈fp,@LT.lt Nat _ b s2.heap.objs.size:=fun b hb=>by
  obtain⟨o,e,_⟩:=T.obj _ _ st2 b hb
  exact Yi e
 have frl:∀ b∈frs X.stack,@LT.lt Nat _ b s2.heap.objs.size:=fun b hb=>by
  obtain⟨_,o,ho,_⟩:=I2.stack.mem hb
  exact Yi ho
 have celll:∀ x c,X.env.cells.lookup x=some c→@LT.lt Nat _ c s2.heap.objs.size:=fun x c e=>by
  obtain⟨v,q⟩:=I2.cell x c e
  exact q.lt
 refine wpAny_newObj_type (wpAny_newFunctionEnv S.cell (by intro y hy; simp at hy) (fun h1 hns1 hsb1=>?_) S.kind)
 dsimp only at hns1 hsb1 ⊢
 generalize hH2:s2.heap.push {cls:=.type "list",dict:=none,data:=.seq ([]:List Value).toArray}=G at hns1 hsb1 ⊢
 have hC:@Eq Nat G.objs.size (s2.heap.objs.size+1):=by rw [← hH2,YO]
 have hDC:s2.heap.objs.size≠G.objs.size:=by show @Ne Nat _ _; omega
 have below:∀ b,@LT.lt Nat _ b s2.heap.objs.size→b≠G.objs.size∧b≠s2.heap.objs.size:=fun b hb=>⟨by show @Ne Nat _ _; omega,Yu hb⟩
 have old:∀ b o,s2.heap.get? b=some o→h1.get? b=some o:=fun b o e=>hsb1.extBut b o (below b (Yi e)).1 (Ye _ (hH2▸Ye _ e))
 have hacc:h1.get? s2.heap.objs.size=some {cls:=.type "list",data:=.seq ([]:List Value).toArray 0}:=hsb1.extBut _ _ hDC (Ye _ (hH2▸Yo _ rfl))
 have hst1:tn 0 h1:=T.keep _ _ _ st2 fun b hb o e=>old b o e
 let X':=ak X N' scope cl G.objs.size fp s2 H2
 obtain⟨W,⟨m0,w0⟩,turn⟩:=cok cl G.objs.size fp s2 H2
 have hXe:X'.xe=X.xe:=rfl
 have stat:∀ {H':Hp} {ps:List (Addr×Obj)},(∀ b∈fp,H' b=none)→(∀ p∈ps,p.1=s2.heap.objs.size)→∀ b∈fp,dy X' ps H' b:=fun {H' ps} hn hp b hb=>by
  obtain⟨f0,f1,ff,f3,f4,f5⟩:=f2 b hb
  refine⟨hn b hb,(below b (fl b hb)).1,fun z=>?_,.inl hb,fun x c e z=>?_,fun p hp' z=>?_⟩
  ·exact(Yr.mp (I2.stkSub b z)).elim f1 ff
  ·exact f4 x c (c1 x c e) z
  ·have e:p.1=s2.heap.objs.size:=hp p (by simpa [X',ak] using hp')
   exact(below b (fl b hb)).2 (z.symm.trans e)
 have loop:∀ s3:Shared,s3={s2 with heap:=h1,toks:=s2.toks+([]:List (Str×Value)).length}→
   codeAny (model X.prog X.w) X.A (.compLoop (.ListComp elt [⟨tg,iter,[cnd],0⟩] scope pos) 0 (.ref it) (.ref s2.heap.objs.size) (compEnvC scope cl G.objs.size X.env))
    (fun r s'=>match r with | .ok _=>bp X pins σ Q (.ref s2.heap.objs.size) G.objs.size s' | .error x=>bI (ak X N' scope cl G.objs.size fp s2 H2) E0 x s') s3:=by
  rintro s3 rfl
  have I3:=jf (us:=[]) (k:=0) (s':={s2 with heap:=h1,toks:=s2.toks+([]:List (Str×Value)).length}) S c1 c2 I2 f2 fl rfl hC rfl rfl old ⟨_,hns1⟩ hacc
  refine eR (fun m s'=>∃ i ys us k σ' H',Inv X' [(s2.heap.objs.size,{cls:=.type "list",data:=.seq (us:List Value).toArray k})] σ' H' s'∧ap ys us∧tn i s'.heap∧(∀ b∈fp,H' b=none)∧ys.length≤sizeLine∧W i m ys σ' H') ?_ m0
   ⟨0,[],[],0,_,H2,I3,.nil,hst1,fun b hb=>(f2 b hb).1,Yy _,w0⟩
  rintro m s' ⟨i,ys,us,k,σ',H',I',rv,st',fr',hlen,w'⟩
  rcases turn i m ys σ' H' w' with ⟨stop,q⟩ | ⟨go,hlt,step⟩
  ·refine thn (T.done X' rfl rfl rfl hc i _ s' σ' H' _ I' (stat fr' (by simp)) st' stop) fun r s4 ⟨hr,I4⟩=>?_
   subst hr
   show bp X pins σ Q (.ref s2.heap.objs.size) G.objs.size s4
   obtain⟨m1,hn1,_⟩:=I4.loc
   obtain⟨pD,nD,_,_,_⟩:=I4.pin (s2.heap.objs.size,{cls:=.type "list",data:=.seq us.toArray k}) (Yk _ (by simp))
   have nD:H' s2.heap.objs.size=none:=nD
   have pD:s4.heap.get? s2.heap.objs.size=some {cls:=.type "list",data:=.seq us.toArray k}:=pD
   have hok:HOk X.prog X.w (upd H' s2.heap.objs.size (.lst ys)) s4.heap:=fun b u e=>by
    by_cases hb:b=s2.heap.objs.size
    ·subst hb
     rw [aa] at e; cases e
     exact⟨hlen,us,k,rv,pD⟩
    ·rw [ac hb] at e
     exact(I4.hok b u e).stay (fun _ _ _ q=>q) (fun c q=>by rw [ac (ae q nD)]; exact q) fun c xs q=>by rw [ac (ae q nD)]; exact q
   have un:Un (frs X.stack) fp H2 (upd H' s2.heap.objs.size (.lst ys)) s2.heap s4.heap:=by
    have u0:=I4.base
    refine⟨u0.keep,u0.slot,fun b o e n hx=>?_,u0.there,fun b xs e=>?_,fun b o xs e=>?_,fun b ps e=>?_⟩
    ·rw [ac (below b (Yi e)).2]; exact u0.free b o e n hx
    ·have q:=u0.tups b xs e
     rw [ac (ae q nD)]; exact q
    ·have q:=u0.frzs b o xs e
     rw [ac (ae q nD)]; exact q
    ·obtain⟨more,q⟩:=u0.tbls b ps e
     exact⟨more,by rw [ac (ae q nD)]; exact q⟩
   have IX:Inv X pins σ (upd H' s2.heap.objs.size (.lst ys)) s4:=I2.call' (ch:=fp) I4.os un hok I4.bare fun b hb=>by
    obtain⟨f0,f1,ff,f3,f4,f5⟩:=f2 b hb
    exact⟨f3,f1,f4,f5⟩
   have hG0:H' G.objs.size=none:=I4.free
   refine⟨s2.heap.objs.size,_,m1,rfl,IX,hn1,⟨by rw [ac (Ne.symm hDC)]; exact hG0,fun z=>?_,fun z=>?_,.inr ?_,fun x c e z=>?_,fun p hp z=>?_⟩,q _ nD⟩
   ·have q1:@LT.lt Nat _ X.env.locals s2.heap.objs.size:=I2.lt
    have q2:@Eq Nat G.objs.size X.env.locals:=z
    omega
   ·have z':G.objs.size∈frs X.outer:=z
    obtain⟨_,o,ho,_⟩:=I2.funs.mem z'
    have q1:@LT.lt Nat _ G.objs.size s2.heap.objs.size:=Yi ho
    omega
   ·have q1:=I2.sz
    show @LE.le Nat _ X.s₀.heap.objs.size G.objs.size
    omega
   ·have q1:=celll x c e
    have q2:@Eq Nat c G.objs.size:=z
    omega
   ·have q1:@LT.lt Nat _ p.1 s2.heap.objs.size:=Yi (I2.pin p hp).1
    have q2:@Eq Nat p.1 G.objs.size:=z
    omega
  ·refine thn (T.item X' rfl rfl rfl hc i _ s' σ' H' _ I' (stat fr' (by simp)) st' go) fun r s4 ⟨u,hr,h4⟩=>?_
   subst hr
   show wpAny _ _ (letOwnedTupleGo tg (.ref it) u) _ _ s4
   refine thn h4 fun _ s5 ⟨x,H5,I5,r5,y5,st5,fr5⟩=>?_
   have I5':=I5.pinned (stat fr5 (by simp)) (T.obj _ _ st5)
   have w1:=hg cl G.objs.size fp s2 H2 _ s5 σ' H5 x u _ (I5'.wish _) r5 (step x H5 y5)
   refine Ym w1 (fun _ s6 ⟨σ6,H6,I6,q6⟩=>?_) fun v s hv=>Ym (XE.note (X:=ak X N' scope cl G.objs.size fp s2 H2) (E:=E0) hv) (fun _ _ z=>z) fun _ _ z=>z
   have w15:=hcn cl G.objs.size fp s2 H2 _ s6 σ6 H6 _ I6 q6
   refine Ym w15 (fun bb s65 ⟨H65,I65,q65⟩=>?_) fun v s hv=>Ym (XE.note (X:=ak X N' scope cl G.objs.size fp s2 H2) (E:=E0) hv) (fun _ _ z=>z) fun _ _ z=>z
   cases bb with
   | false=>
    rw [if_neg Yt] at q65 ⊢
    obtain⟨m',hm',w65⟩:=q65
    have I66:=I65.unwish
    have pinD:=I66.pin (s2.heap.objs.size,{cls:=.type "list",data:=.seq us.toArray k}) (Yk _ (YT _ (by simp)))
    refine⟨m',hm',i+1,ys,us,k,σ6,H65,I66.pins_of (fun p hp=>by rw [Yp.mp hp]; exact pinD),rv,T.keep _ _ _ st5 fun b hb o e=>?_,fun b hb=>?_,hlen,w65⟩
    ·exact(I66.pin (b,o) (Yk _ (Yk _ (aH hb e)))).1
    ·obtain⟨o,e,d⟩:=T.obj _ _ st5 b hb
     exact(I66.pin (b,o) (Yk _ (Yk _ (aH hb e)))).2.1
   | true=>
   rw [if_pos rfl] at q65 ⊢
   obtain⟨NN,q6,hNN⟩:=q65
   have I6:=I65
   have H6:=H65
   have w2:=he cl G.objs.size fp s2 H2 _ s65 σ6 H65 _ I6 q6
   refine Ym w2 (fun y s7 ⟨v,H7,I7w,r7,q7⟩=>?_) fun v s hv=>Ym (XE.note (X:=ak X N' scope cl G.objs.size fp s2 H2) (E:=E0) hv) (fun _ _ z=>z) fun _ _ z=>z
   have I7:=I7w.unwish
   obtain⟨m',hm',w7⟩:=hNN v H7 q7
   have pinD:=I7.pin (s2.heap.objs.size,{cls:=.type "list",data:=.seq us.toArray k}) (Yk _ (YT _ (by simp)))
   obtain⟨pD,nD,lD,fD,_⟩:=pinD
   refine append_at (hsz:=by rw [Yq,← rv.length]; exact hlen) pD fun h8 hs8 hD8=>?_
   have nD:H7 s2.heap.objs.size=none:=nD
   have I8:Inv X' (bz fp s5.heap) σ6 H7 {s7 with heap:=h8}:=by
    refine(I7.pins_of (pins':=bz fp s5.heap) fun p hp=>I7.pin p (Yk _ (Yk _ hp))).turned (t':=s7.toks) (it:=s2.heap.objs.size) (fun b o hb e=>(hs8.2 b hb).trans e) nD lD (.inr (Yg _)) (fun x c e z=>?_) fun p hp z=>?_
    ·have q1:=celll x c (c1 x c e)
     have q2:@Eq Nat c s2.heap.objs.size:=z
     omega
    ·have hp':p∈bz fp s5.heap:=by simpa [X',ak] using hp
     have q1:=fl p.1 (dE hp').1
     have q2:@Eq Nat p.1 s2.heap.objs.size:=z
     omega
   have I9:Inv X' [(s2.heap.objs.size,{cls:=.type "list",data:=.seq (us++[y]).toArray (k+1)})] σ6 H7 {s7 with heap:=h8}:=I8.pins_of fun p hp=>by
    have e:p=(s2.heap.objs.size,{cls:=.type "list",data:=.seq (us++[y]).toArray (k+1)}):=by simpa using hp
    subst e
    refine⟨by rw [hD8,List.push_toArray],nD,lD,fD,fun v z=>by cases z⟩
   refine⟨m',hm',i+1,ys++[v],us++[y],k+1,σ6,H7,I9,rv.append (.cons r7 .nil),T.keep _ _ _ st5 fun b hb o e=>?_,fun b hb=>?_,by rw [Yw,YZ]; omega,w7⟩
   ·exact(I8.pin (b,o) (Yk _ (aH hb e))).1
   ·obtain⟨o,e,d⟩:=T.obj _ _ st5 b hb
    exact(I8.pin (b,o) (Yk _ (aH hb e))).2.1
 exact codeAny_compStart_list (loop _ rfl) (T.self _ 0 _ _ _ hst1 (loop _ rfl))
theorem lJ{E0:XK}{wi:TI}{g:au TG}{tc:au TT}{te:au TE}{i:Nat}{x:Str}{pos' spos:Pos}(hN:X.N.Nodup)(hi0:X.N[i]? = some x)(hx:Loc X.env.scope x)
  (hsw:swapsWith (.ListComp elt [⟨tg,iter,[cnd],0⟩] scope pos) (some (.Name x pos')) spos.line X.env=pure true)
  (fr:bY X) (hc:X.calm=true) (S:aE n N' X scope) (hi:PI (X.exc E0) tg iter wi)
  (hg:∀ cl C ex s H,PG ((ak X N' scope cl C ex s H).exc E0) tg (g cl C ex s H)) (hcn:∀ cl C ex s H,PT ((ak X N' scope cl C ex s H).exc E0) cnd (tc cl C ex s H)) (he:∀ cl C ex s H,PE ((ak X N' scope cl C ex s H).exc E0) elt (te cl C ex s H))
  (hs:∀ x,foldedSetIterable iter X.env x=pure x:=by intro _; rfl) (hf:X.fn x=true∨X.env.scope.names.lookup x=some .local:=by first | exact .inl rfl | exact .inr rfl | assumption) :
  PS (X.exc E0) (.Assign [.Name x pos'] (.ListComp elt [⟨tg,iter,[cnd],0⟩] scope pos) spos) (nj (sf n wi g tc te) (cG i)):=by
 intro pins s σ H D I h
 rw [exec_Assign_Name_used _ _ _ _ hsw]
 refine Yd (wpAny_standAt (Yd ?_))
 obtain⟨cl,hcl,c1,c2⟩:=de (scope:=scope) (env:=X.env) fun x hx hf=>I.ok.has x.1 (S.free x hx hf)
 show wpAny _ _ (do let _ ← comprehension (.ListComp elt [⟨tg,iter,[cnd],0⟩] scope pos) scope X.env _ (newList []) false (eval iter X.env) (some (assign (.Name x pos') X.env))) _ _ s
 refine Yd (Ym (wpAny_comprehension_free (use:=some (assign (.Name x pos') X.env)) (Q:=fun _ s'=>SP (X.exc E0) pins D .next s') rfl hs hcl S.kind S.names
  (thn (hi pins s σ H _ I h) fun v s1 h1=>thn h1 fun itv s2 h2=>?_)) (fun _ s' hq=>Yf (Yf hq)) fun _ _ e=>e)
 obtain⟨it,fp,tn,J,H2,e,I2w,T,st2,f2,cok⟩:=h2
 subst e
 have I2:=I2w.unwish
 refine Ym (mK (X:=X) (E0:=E0) (pos:=pos) (iter:=iter) (E:=(X.exc E0).xe) (Q:=fun x H1=>cG i x σ H1 D.nx) hc S c1 c2 I2 T st2 f2 hg hcn he cok) (fun acc s3 h3=>Ym h3 (fun cenv s4 h4=>codeAny_mono h4 fun r s' hr=>?_) fun _ _ z=>z) fun _ _ z=>z
 cases r with
 | error e=>exact fz I2 f2 fr hr
 | ok f=>
  obtain⟨Dl,H',m,rfl,I',hn,⟨f0,f1,ff,f3,f4,f5⟩,q⟩:=hr
  show wpAny _ _ (assign (.Name x pos') X.env (.ref Dl)) _ _ s'
  refine wpAny_assign_Name (gt I' hN hi0 hx (v:=.ref Dl) (u:=.ref Dl) rfl (fun s'' I'' hb=>?_) hf)
  obtain⟨a,sb,ha⟩:=hb
  have hCa:cenv.locals≠a:=by
   rcases ha with rfl | ha
   ·exact f1
   ·exact fun z=>f4 x a ha z.symm
  refine⟨m,hn.sameBut sb hCa,fun h' hs'=>⟨_,H',Inv.wish ?_ _,q⟩⟩
  exact I''.turned (t':=s''.toks) (fun b o hb e=>(hs'.2 b hb).trans e) f0 f1 f3 f4 f5
end
section
variable{X:Cx}{pins:List (Addr×Obj)}{σ:St}{H:Hp}{s:Shared}
theorem Inv.trackO{a:Addr}{o:HO}(I:Inv X pins σ H s)(l:dm X pins H a)(ok:aB X.prog X.w (upd H a o) s.heap a o):Inv X pins σ (upd H a o) s:=by
 have nb:∀ b u,H b=some u→b≠a:=fun b u q=>ae q l.un
 refine⟨I.ok,I.os,I.bare,⟨I.base.keep,I.base.slot,fun b o q n hx=>?_,I.base.there,fun b xs q=>?_,fun b o xs q=>?_,fun b ps q=>?_⟩,I.loc,I.cell,?_,fun x c hc=>?_,fun p hp=>?_,fun b u q=>?_,I.len⟩
 ·have : b≠a:=by
   rintro rfl
   rcases l.new with z | z
   ·exact hx z
   ·rw [z] at q; cases q
  rw [ac this]; exact I.base.free b _ q n hx
 ·have:=I.base.tups b xs q
  rw [ac (nb b _ this)]; exact this
 ·have:=I.base.frzs b o xs q
  rw [ac (nb b _ this)]; exact this
 ·obtain⟨m,z⟩:=I.base.tbls b ps q
  exact⟨m,by rw [ac (nb b _ z)]; exact z⟩
 ·rw [ac (Ne.symm l.loc)]; exact I.free
 ·rw [ac (l.cel x c hc)]; exact I.freeC x c hc
 ·obtain⟨e1,n,ne,nf,d⟩:=I.pin p hp
  exact⟨e1,by rw [ac (l.pin p hp)]; exact n,ne,nf,d⟩
 ·by_cases hb:b=a
  ·subst hb
   rw [aa] at q; cases q
   exact ok
  ·rw [ac hb] at q
   exact(I.hok b u q).stay (fun _ _ _ z=>z) (fun c z=>by rw [ac (nb c _ z)]; exact z) fun c xs z=>by rw [ac (nb c _ z)]; exact z
theorem dy.loose{b:Addr}(f:dy X pins H b):dm X pins H b:=by
 obtain⟨f0,f1,f2,f3,f4,f5⟩:=f
 exact⟨f0,f3.imp id Xh,f1,f4,f5⟩
end
section
variable{X:Cx}{elts:List Expr}{k:Nat}{tpos:Pos}
theorem rC:bootBuiltins "enumerate"=some (.type "enumerate"):=by decide +kernel
end
end L2
set_option maxHeartbeats 1000000
namespace L2
open PySem PySem.Spec PyProof.Rows
mutual
inductive RdD(R:Addr→Prop)(H:Hp):V→PyData→Prop where
 | non:RdD R H .non .none
 | bl (b:Bool):RdD R H (.bl b) (.bool b)
 | int (i:Int):RdD R H (.int i) (.int i)
 | str (x:Str):RdD R H (.str x) (.str x)
 | lst {a:Addr} {xs:List V} {ds:List PyData}:R a→H a=some (.lst xs)→RdB R H xs ds→RdD R H (.ref a) (.list ds)
 | tup {a:Addr} {xs:List V} {ds:List PyData}:R a→H a=some (.tup xs)→RdB R H xs ds→RdD R H (.ref a) (.tuple ds)
 | d0 {a:Addr}:R a→H a=some (.dK [])→RdD R H (.ref a) (.dict [])
 | d1 {a:Addr} {k:Str} {i:Int}:R a→H a=some (.dK [(.inr k,.int i)])→RdD R H (.ref a) (.dict [(.str k,.int i)])
inductive RdB(R:Addr→Prop)(H:Hp):List V→List PyData→Prop where
 | nil:RdB R H [] []
 | cons {x:V} {xs:List V} {d:PyData} {ds:List PyData}:RdD R H x d→RdB R H xs ds→RdB R H (x::xs) (d::ds)
end
mutual
theorem RdD.mono{R R':Addr→Prop}{H H':Hp}(hR:∀ a,R a→R' a)(hH:∀ a o,R a→H a=some o→H' a=some o):∀ {x:V} {d:PyData},RdD R H x d→RdD R' H' x d
 | _,_,.non=>.non
 | _,_,.bl b=>.bl b
 | _,_,.int i=>.int i
 | _,_,.str x=>.str x
 | _,_,.lst r e z=>.lst (hR _ r) (hH _ _ r e) (RdB.mono hR hH z)
 | _,_,.tup r e z=>.tup (hR _ r) (hH _ _ r e) (RdB.mono hR hH z)
 | _,_,.d0 r e=>.d0 (hR _ r) (hH _ _ r e)
 | _,_,.d1 r e=>.d1 (hR _ r) (hH _ _ r e)
theorem RdB.mono{R R':Addr→Prop}{H H':Hp}(hR:∀ a,R a→R' a)(hH:∀ a o,R a→H a=some o→H' a=some o):∀ {xs:List V} {ds:List PyData},RdB R H xs ds→RdB R' H' xs ds
 | _,_,.nil=>.nil
 | _,_,.cons a b=>.cons (RdD.mono hR hH a) (RdB.mono hR hH b)
end
theorem kU{P:Program}{w:World}{H:Hp}{h:Heap}{a:Addr}{kvs:List (Key×V)}(ok:HOk P w H h)(e:H a=some (.dK kvs)):∃ o es ep vs,h.get? a=some o∧o.cls=.type "dict"∧o.data=.dict es ep∧KV kvs vs∧Pairs (az P w) es.toList vs:=by
 obtain⟨_,_,vs,kv,o,es,ep,h1,h2,h3,h4,h5,h6⟩:=xW ok e
 exact⟨o,es,ep,vs,h1,h2.1,h3,kv,h5⟩
mutual
theorem RdD.reads{R:Addr→Prop}{P:Program}{w:World}{H:Hp}{h:Heap}(ok:HOk P w H h):∀ {x:V} {d:PyData},RdD R H x d→∀ {u:Value},aq x u→∃ as,Reads h u d as∧∀ a∈as,H a≠none
 | _,_,.non,u,r=>by cases r; exact⟨_,.none,fun _ z=>nomatch z⟩
 | _,_,.bl b,u,r=>by cases r; exact⟨_,.bool b,fun _ z=>nomatch z⟩
 | _,_,.int i,u,r=>by obtain⟨t,rfl⟩:=r; exact⟨_,.int i t,fun _ z=>nomatch z⟩
 | _,_,.str x,u,r=>by obtain⟨t,rfl⟩:=r; exact⟨_,.str x t,fun _ z=>nomatch z⟩
 | _,_,.lst (a:=a) _ e z,u,r=>by
  cases r
  obtain⟨_,its,n,rv,e1⟩:=ok a _ e
  obtain⟨as,q,ha⟩:=RdB.reads ok z rv
  refine⟨_,.list e1 rfl rfl (by simpa using q),fun b hb=>?_⟩
  rcases Yr.mp hb with rfl | hb
  ·rw [e]; exact fun z=>nomatch z
  ·exact ha b hb
 | _,_,.tup (a:=a) _ e z,u,r=>by
  cases r
  obtain⟨_,its,rv,o,e1,e2,n,e3⟩:=ok a _ e
  obtain⟨as,q,ha⟩:=RdB.reads ok z rv
  exact⟨_,.tuple e1 e2 e3 (by simpa using q),ha⟩
 | _,_,.d0 (a:=a) _ e,u,r=>by
  cases r
  obtain⟨o,es,ep,vs,h1,h2,h3,kv,pr⟩:=kU ok e
  cases kv
  have he:es.toList=[]:=by cases hq:es.toList with | nil=>rfl | cons _ _=>rw [hq] at pr; cases pr
  refine⟨_,.dict (as:=[]) (bs:=[]) h1 h2 h3 (by rw [he]; exact .nil) (by rw [he]; exact .nil),fun b hb=>?_⟩
  obtain rfl:b=a:=by simpa using hb
  rw [e]; exact fun z=>nomatch z
 | _,_,.d1 (a:=a) (k:=k) (i:=i) _ e,u,r=>by
  cases r
  obtain⟨o,es,ep,vs,h1,h2,h3,kv,pr⟩:=kU ok e
  cases kv with | cons hk tl=>
  cases tl
  rename_i q
  obtain⟨k1,k2⟩:=hk
  obtain⟨t2,k2⟩:=k2
  cases hq:es.toList with
  | nil=>rw [hq] at pr; cases pr
  | cons ent rest=>
   rw [hq] at pr
   cases pr with | cons p1 p2 p3=>
   cases p3
   have p1:gX q.1 ent.key=true:=p1
   rw [← k1] at p1
   rcases aM p1 with ⟨_,_,z,_⟩ | ⟨x',t',z,e'⟩
   ·cases z
   ·cases z
    refine⟨_,.dict (as:=[]++[]) (bs:=[]++[]) h1 h2 h3 (by rw [hq]; exact .cons (by show Reads h ent.key _ _; rw [e']; exact .str _ _) .nil) (by rw [hq]; exact .cons (by show Reads h ent.val _ _; rw [p2,k2]; exact .int _ _) .nil),fun b hb=>?_⟩
    obtain rfl:b=a:=by simpa using hb
    rw [e]; exact fun z=>nomatch z
theorem RdB.reads{R:Addr→Prop}{P:Program}{w:World}{H:Hp}{h:Heap}(ok:HOk P w H h):∀ {xs:List V} {ds:List PyData},RdB R H xs ds→∀ {us:List Value},ap xs us→∃ as,ReadsAll h us ds as∧∀ a∈as,H a≠none
 | _,_,.nil,_,.nil=>⟨_,.nil,fun _ z=>nomatch z⟩
 | _,_,.cons a b,_,.cons r t=>by
  obtain⟨as,q1,h1⟩:=RdD.reads ok a r
  obtain⟨bs,q2,h2⟩:=RdB.reads ok b t
  exact⟨_,.cons q1 q2,fun a ha=>(YN.mp ha).elim (h1 a) (h2 a)⟩
end
section
variable{X:Cx}
theorem Inv.noSys{pins:List (Addr×Obj)}{σ:St}{H:Hp}{s:Shared}(I:Inv X pins σ H s):H sysModules=none:=by
 obtain⟨mm,o,es,ep,e,_⟩:=I.mod.sys
 exact(I.bs _ o e).2
inductive rCall_reprXI(xs:List V)(H:Hp)(Q:VK):Prop | mk (R:Addr→Prop) (p:Addr) (d:PyData) (_:xs=[.ref p]) (_:RdD R H (.ref p) d) (_:d.showable=true) (_:d.depth≤60) (_:d.shown.length≤sizeLine) (_:Q (.str d.shown) H)
theorem oC{k:Nat}(hr:aI k X.A):bU X (.builtin "repr") rCall_reprXI:=by
 intro pins s σ H xs us Q I r h
 obtain⟨R,p,d,rfl,hd,h1,h3,h4,q⟩:=h
 obtain⟨u,rfl,rx⟩:=cM r
 cases rx
 obtain⟨as,rd,ha⟩:=hd.reads I.hok (u:=.ref p) rfl
 have hu:=hr.units
 exact repr_of_reads' (h₀:=s.heap) rd h1 (fun _ z=>ha _ z I.noSys) hr.gd (by omega) (fun _ _ e=>e) (fun h' u tk kk=>⟨.str d.shown,H,I.kept kk,⟨u,rfl⟩,q⟩) h4
end
end L2
namespace HT
open PySem PySem.Spec PyProof.Rows L2
section
variable{prog:Program}{w:World}{A:Around}{E:Value→Shared→Prop}{s:Shared}
theorem getItem_tuple_all{t sl:Addr}{items:Array Value}{vl vu:Value}{lo hi:Option Int}{Q:Value→Shared→Prop}(ht:IsTup s.heap t items)(hs:s.heap.IsSliceOf sl vl vu .none)(pl:IsPart vl lo)(pu:IsPart vu hi)
  (hw:sIx items.size 0 lo=0∧sIx items.size items.size hi=items.size) (h:Q (.ref t) s):wpAny (model prog w) A (getItem (.ref t) (.ref sl)) Q E s:=by
 obtain⟨os,hos,hcs,hds⟩:=id hs
 have hTs:s.TypeIs (.ref sl) "slice":=⟨os,hos,hcs⟩
 unfold getItem
 try with_reducible refine wpAny_holding ?_
 first | refine Yd (Yf ?_) | skip
 refine Yd (wpAny_sequenceKey ht.typeIs (by decide) ?_)
 refine Yd (wpAny_callSpecial?_slot (name:=Str.ofString "__getitem__") ht.typeIs PyProof.Rows.slot_tuple_getitem
  (wpAny_call_entry PyProof.Rows.slot_tuple_getitem ht.typeIs entry_tuple_getitem ?_ (args_tuple_getitem _ _)))
 show wpAny _ _ (Builtin.Tuple.tupleItemsOf (.ref t)>>=_) _ _ s
 refine Yd (tupleItemsOf_ ht ?_)
 refine Yd (wpAny_typeOf hTs ?_)
 rw [if_pos (by decide)]
 refine Yd (dC hs pl pu ?_)
 have hyes:((((sIx items.size 0 lo:Nat):Int)==0&&(1:Int)==1&&(sIx items.size items.size hi-sIx items.size 0 lo)==items.size)=true):=by
  rw [hw.1,hw.2]; simp
 show wpAny _ _ (if (((sIx items.size 0 lo:Nat):Int)==0&&(1:Int)==1&&(sIx items.size items.size hi-sIx items.size 0 lo)==items.size)=true then _ else _) _ _ s
 rw [if_pos hyes]
 refine Yd ?_
 unfold Builtin.Tuple.tupleIsExact
 refine Yd (wpAny_typeOf ht.typeIs (Yf ?_))
 rw [if_pos (by decide)]
 refine Yd (wpAny_rule ?_)
 exact Yf ⟨_,rfl,Yf h⟩
end
end HT
namespace L2
open PySem PySem.Spec PyProof.Rows
section
variable{X:Cx}
inductive rOp_eqL0I(K:XC)(x y:V)(H:Hp)(Q:VK):Prop | mk (a b:Addr) (xs:List V) (_:x=.ref a) (_:y=.ref b) (_:SqL K H a xs) (_:SqL K H b []) (_:Q (.bl xs.isEmpty) H)
theorem pB(hu:X.A.units<cLine):OpR X (compareOp .Eq) (rOp_eqL0I X.K):=by
 intro pins s σ H x y v u Q I rx ry h
 obtain⟨a,b,xs,rfl,rfl,ha,hb,q⟩:=h
 cases rx
 cases ry
 obtain⟨its,r1,p1,_⟩:=I.list ha
 obtain⟨jts,r2,p2,_⟩:=I.list hb
 cases r2
 cases r1 with
 | nil=>exact PySem.SeqAt.eq_listAt (e:=fun _=>true) p1.isList p2.isList rfl hu (fun j h1 _=>absurd h1 (by simp)) ⟨.bl true,H,I.tok _,rfl,q⟩
 | cons r t=>exact PySem.SeqAt.eq_list_lengthsAt p1.isList p2.isList (by simp) hu ⟨.bl false,H,I.tok _,rfl,q⟩
inductive rSlA(K:XC)(x:V)(lo hi:Option Int)(H:Hp)(Q:VK):Prop | mk (a xs) (_:x=.ref a) (_:SqT K H a xs) (_:(HT.sIx xs.length 0 lo=0∧HT.sIx xs.length xs.length hi=xs.length)) (_:Q (.ref a) H)
theorem yo:SlR X (rSlA X.K):=by
 intro pins s σ H x v vl vu lo hi sl Q I rx hs pl pu h
 obtain⟨a,xs,rfl,hx,hw,q⟩:=h
 cases rx
 obtain⟨its,r,ht,hz⟩:=I.tuple hx
 have hlen:its.toArray.size=xs.length:=by rw [Yq]; exact r.length.symm
 exact⟨"tuple",_,PyProof.Rows.slot_tuple_getitem.lookup,ht.typeIs,HT.getItem_tuple_all ht hs pl pu (by rw [hlen]; exact hw) ⟨.ref a,H,I.tok _,rfl,q⟩⟩
def yu(K:XC):V→Option Int→Option Int→Hp→VK→Prop:=fun x lo hi H Q=>rSlL K x lo hi H Q∨(rSlT K x lo hi H Q∨rSlA K x lo hi H Q)
theorem ym:SlR X (yu X.K):=sl_list.or (sl_tup.or yo)
end
abbrev CK:=Str×List Int
section
variable{P:Program}{w:World}
variable{A:Around}{E:Value→Shared→Prop}{s:Shared}
end
def Raw(h:Heap)(d:Addr)(es:Array DictEntry)(ep:Nat):Prop:=∃ o,h.get? d=some o∧o.ExactDict∧o.data=.dict es ep
theorem Raw.typeIs{s:Shared}{d:Addr}{es:Array DictEntry}{ep:Nat}(m:Raw s.heap d es ep):s.TypeIs (.ref d) "dict":=let ⟨o,ho,hc,_⟩:=m; ⟨o,ho,hc.1⟩
section
variable{P:Program}{w:World}{A:Around}{E:Value→Shared→Prop}{s:Shared}{d it:Addr}{es:Array DictEntry}{ep i:Nat}
theorem sR{Q:Value→Shared→Prop}(hd:(d==sysModules)=false)(hm:Raw s.heap d es ep)
  (hQ:Q (.ref s.heap.objs.size) {s with heap:=s.heap.push {cls:=.type "dict_keyiterator",data:=.fields #[.ref d,.int 0 0,.int es.size 0,.int ep 0]}}):wpAny (model P w) A (pyIter (.ref d)) Q E s:=by
 have hT:=hm.typeIs
 obtain⟨o,ho,hc,hdat⟩:=hm
 refine wpAny_pyIter_slot hT F.slot_dict_iter (wpAny_call_entry F.slot_dict_iter hT F.entry_dict_iter ?_ (F.args_dict_iter_1 _))
 unfold Builtin.«dict.__iter__»
 refine Yd ?_
 unfold Builtin.Dict.dictSlotNone
 refine Yd (wpAny_notOrdered_dict hT ?_)
 show wpAny _ _ (pure (Value.ref d)) _ _ s
 refine Yf ?_
 show wpAny _ _ (Builtin.Dict.showsAll d>>=_) _ _ s
 unfold Builtin.Dict.showsAll
 rw [if_neg (by rw [hd]; exact Yt)]
 refine Yd (Yf (Yd (wpAny_dictEntries ho hdat (Yd (wpAny_dictEpoch ho hdat ?_)))))
 refine Yd (wpAny_newObj_type (Yf ⟨_,rfl,"dict_keyiterator",_,⟨_,Yo _ rfl,rfl⟩,F.slot_dict_keyiterator_next.lookup,?_⟩))
 simpa [rawInt] using hQ
theorem sS{Q:Option Value→Shared→Prop}(hit:s.heap.IsKeyIter it d i es.size ep)(hm:Raw s.heap d es ep)(hlt:i<es.size)
  (hQ:∀ h',h'.IsKeyIter it d (i+1) es.size ep→YX it s.heap h'→Q (some es[i].key) {s with heap:=h'}):wpAny (model P w) A (pyNext (.ref it)) Q E s:=by
 obtain⟨o,ho,hc,hd⟩:=id hit
 obtain⟨od,hod,hcd,hdd⟩:=id hm
 unfold pyNext
 refine Yd (wpAny_attempt (wpAny_callSpecial?_slot (name:=Str.ofString "__next__") hit.typeIs F.slot_dict_keyiterator_next (wpAny_call_entry F.slot_dict_keyiterator_next hit.typeIs F.entry_dict_keyiterator_next ?_ (F.args_dict_keyiterator_next_1 _))))
 refine Yd (Yf (Yd (Yd ?_)))
 first | refine Yd (wpAny_typeNameOfWhole_keyiter hit.typeIs (Yf ?_)) | refine Yd (wpAny_typeNameOf_keyiter hit.typeIs (Yf ?_))
 refine Yd (wpAny_fieldsOf ho hd ?_)
 have hown:Builtin.Dict_items.ownsTuple "dict_keyiterator"=false:=by decide
 simp only [hown,YU,if_false]
 show wpAny _ _ (if (Value.ref d==Value.none)=true then _ else _) _ _ s
 rw [if_neg (show ¬ ((Value.ref d==Value.none)=true) from Yt)]
 refine Yd (Yf (Yd (wpAny_dictEntries hod hdd ?_)))
 rw [if_neg (by simp)]
 refine Yd (Yf (Yd (wpAny_dictEpoch hod hdd ?_)))
 rw [if_neg (by simp)]
 refine Yf ?_
 simp only [show ¬ ((i:Int)<0) from by omega,if_false,Int.toNat_natCast,Array.getElem?_eq_getElem hlt]
 refine Yd ?_
 first | refine Yd (wpAny_typeNameOfWhole_keyiter hit.typeIs (Yf ?_)) | refine Yd (wpAny_typeNameOf_keyiter hit.typeIs (Yf ?_))
 refine Yd (wpAny_isOneOf_keyiter hit.typeIs ?_)
 show wpAny _ _ (setField (.ref it) 1 (rawInt ((i:Int)+1))>>=_) _ _ s
 refine Yd (wpAny_setField ho hd (by simp) ?_)
 have hit':(s.heap.update it (Obj.mapFields (·.setIfInBounds 1 (rawInt ((i:Int)+1))))).IsKeyIter it d (i+1) es.size ep:=
  ⟨_,Xq _ ho (Obj.isFreed_of_fields (Obj.data_mapFields hd _)),(Obj.cls_mapFields ..).trans hc,by rw [Obj.data_mapFields hd]; simp [rawInt]⟩
 refine Yd (wpAny_holding ?_)
 refine Yd (wpAny_isOneOf_keyiter (s:={s with heap:=s.heap.update it (Obj.mapFields (·.setIfInBounds 1 (rawInt ((i:Int)+1))))}) hit'.typeIs ?_)
 show wpAny _ _ (pure es[i].key) _ _ _
 exact Yf (Yf ⟨_,rfl,Yf (hQ _ hit' (YX.update ..))⟩)
theorem vR{Q:Option Value→Shared→Prop}(hh:A.handled=none)(hit:s.heap.IsKeyIter it d es.size es.size ep)(hm:Raw s.heap d es ep)
  (hQ:∀ h',Heap.ExtBut it s.heap h'→Q none {s with heap:=h'}):wpAny (model P w) A (pyNext (.ref it)) Q E s:=by
 obtain⟨o,ho,hc,hd⟩:=id hit
 obtain⟨od,hod,hcd,hdd⟩:=id hm
 unfold pyNext
 refine Yd (wpAny_attempt (wpAny_callSpecial?_slot (name:=Str.ofString "__next__") hit.typeIs F.slot_dict_keyiterator_next (wpAny_call_entry F.slot_dict_keyiterator_next hit.typeIs F.entry_dict_keyiterator_next ?_ (F.args_dict_keyiterator_next_1 _))))
 refine Yd (Yf (Yd (Yd ?_)))
 first | refine Yd (wpAny_typeNameOfWhole_keyiter hit.typeIs (Yf ?_)) | refine Yd (wpAny_typeNameOf_keyiter hit.typeIs (Yf ?_))
 refine Yd (wpAny_fieldsOf ho hd ?_)
 have hown:Builtin.Dict_items.ownsTuple "dict_keyiterator"=false:=by decide
 simp only [hown,YU,if_false]
 show wpAny _ _ (if (Value.ref d==Value.none)=true then _ else _) _ _ s
 rw [if_neg (show ¬ ((Value.ref d==Value.none)=true) from Yt)]
 refine Yd (Yf (Yd (wpAny_dictEntries hod hdd ?_)))
 rw [if_neg (by simp)]
 refine Yd (Yf (Yd (wpAny_dictEpoch hod hdd ?_)))
 rw [if_neg (by simp)]
 refine Yf ?_
 simp only [show ¬ ((es.size:Int)<0) from by omega,if_false,Int.toNat_natCast,Array.getElem?_eq_none (Yg es.size)]
 refine Yd ?_
 first | refine Yd (wpAny_typeNameOfWhole_keyiter hit.typeIs (Yf ?_)) | refine Yd (wpAny_typeNameOf_keyiter hit.typeIs (Yf ?_))
 show wpAny _ _ (setField (.ref it) 0 .none>>=_) _ _ s
 refine Yd (wpAny_setField ho hd (by simp) ?_)
 show wpAny _ _ (newExc (.type "StopIteration") []>>=_) _ _ _
 refine Yd ?_
 simp only [newExc,newTuple]
 refine Yd (wpAny_newObj_type ?_ (by size_fits))
 refine Yd (m:=firstArgMember _ _) (wpAny_of_eq (a:=Value.none) (by first | rfl | (simp only [firstArgMember]; rfl)) ?_)
 refine wpAny_newObj_type ?_ (by size_fits)
 simp only [raiseNew]
 refine Yd (wpAny_handled ?_)
 rw [show A.in1.handled=none from hh]
 refine Yd (Yf (wpAny_throw ?_))
 refine Yd (wpAny_isInstance (T:="StopIteration") (b:=true) ⟨_,Yo _ rfl,rfl⟩ isSubtype_stop ?_)
 exact Yf (hQ _ (((YX.update ..).extBut.push _).push _))
end
abbrev CD:=List (CK×Addr×V)
section
variable{P:Program}{w:World}{H:Hp}{h:Heap}{a:Addr}
end
section
variable{X:Cx}{pins:List (Addr×Obj)}{σ:St}{H:Hp}{s:Shared}{a q:Addr}{cd:CD}{k:CK}{v:V}{r:Value}{A:Around}{E:Value→Shared→Prop}
end
section
variable{X:Cx}{o i e value:Expr}{pos pos' tpos:Pos}{td ty tv:TE}
end
structure rG(P:Program)(w:World)(i l:Addr)(xs:Array Value)(It:Nat→Heap→Prop):Prop where
 item:∀ (A:Around) (s:Shared) (k:Nat) (x:Value) (Q:Value→Shared→Prop) (E:Value→Shared→Prop),It k s.heap→xs[k]? = some x→
  (∀ h',It (k+1) h'→YX i s.heap h'→Q x {s with heap:=h'})→wpAny (model P w) A (Builtin.SmallTypes.nextOf (.ref i)) Q E s
 fin:∀ (A:Around) (s:Shared) (k:Nat) (Q:Value→Shared→Prop) (E:Value→Shared→Prop),A.handled=none→It k s.heap→xs[k]? = none→
  (∀ h' e,Heap.ExtBut i s.heap h'→(∃ o,h'.get? e=some o∧o.cls=.type "StopIteration")→E (.ref e) {s with heap:=h'})→wpAny (model P w) A (Builtin.SmallTypes.nextOf (.ref i)) Q E s
 keep:∀ (h h':Heap) (k:Nat),It k h→(∀ b,b=i∨b=l→∀ o,h.get? b=some o→h'.get? b=some o)→It k h'
section
variable{P:Program}{w:World}
theorem qZ(i l:Addr)(xs:Array Value)(hne:l≠i):rG P w i l xs fun k h=>h.IsListIter i l k∧h.IsList l xs where
 item:=fun A s k x Q E st hx hQ=>wpAny_nextOf_list_item st.1 st.2 hx fun h' it' hs=>hQ h' ⟨it',st.2.extBut hs.extBut hne⟩ hs
 fin:=fun A s k Q E hh st hx hE=>wpAny_nextOf_list_end hh st.1 st.2 hx hE
 keep:=fun h h' k st hk=>⟨st.1.at fun o e=>hk i (.inl rfl) o e,st.2.at fun o e=>hk l (.inr rfl) o e⟩
section
variable{A:Around}{E:Value→Shared→Prop}{s:Shared}
theorem rV{it t:Addr}{k:Nat}{items:Array Value}{x:Value}{Q:Value→Shared→Prop}(hit:s.heap.IsTupleIter it t k)(ht:s.heap.IsTuple t items)(hx:items[k]? = some x)
  (hQ:∀ h',h'.IsTupleIter it t (k+1)→YX it s.heap h'→Q x {s with heap:=h'}):wpAny (model P w) A (Builtin.SmallTypes.nextOf (.ref it)) Q E s:=by
 obtain⟨o,ho,hc,hd⟩:=id hit
 obtain⟨ol,hol,_,nl,hdl⟩:=ht
 unfold Builtin.SmallTypes.nextOf
 refine Yd (wpAny_callSpecial?_slot (name:=Str.ofString "__next__") hit.typeIs F.slot_tuple_iterator_next (wpAny_call_entry F.slot_tuple_iterator_next hit.typeIs F.entry_tuple_iterator_next ?_ (F.args_tuple_iterator_next_1 _)))
 show wpAny _ _ (field (.ref it) 0>>=_) _ _ s
 refine Yd (wpAny_field ho hd (x:=.ref t) rfl ?_)
 show wpAny _ _ (if (Value.ref t==Value.none)=true then _ else _) _ _ s
 rw [if_neg (show ¬ ((Value.ref t==Value.none)=true) from Yt)]
 show wpAny _ _ (field (.ref it) 1>>=_) _ _ s
 refine Yd (wpAny_field ho hd (x:=.int k 0) rfl ?_)
 show wpAny _ _ (seqItems? (.ref t)>>=_) _ _ s
 refine Yd (wpAny_seqItems hol hdl ?_)
 simp only [Int.toNat_natCast,hx]
 refine Yd (wpAny_setField ho hd (by simp) (Yf ⟨x,rfl,Yf (hQ _ ⟨_,Xq _ ho (Obj.isFreed_of_fields (Obj.data_mapFields hd _)),(Obj.cls_mapFields ..).trans hc,?_⟩ (YX.update ..))⟩))
 rw [Obj.data_mapFields hd]; simp [rawInt]
theorem vJ{it t:Addr}{k:Nat}{items:Array Value}{Q:Value→Shared→Prop}(hh:A.handled=none)(hit:s.heap.IsTupleIter it t k)(ht:s.heap.IsTuple t items)(hx:items[k]? = none)
  (hE:∀ h' e,Heap.ExtBut it s.heap h'→(∃ o,h'.get? e=some o∧o.cls=.type "StopIteration")→E (.ref e) {s with heap:=h'}):wpAny (model P w) A (Builtin.SmallTypes.nextOf (.ref it)) Q E s:=by
 obtain⟨o,ho,hc,hd⟩:=id hit
 obtain⟨ol,hol,_,nl,hdl⟩:=ht
 unfold Builtin.SmallTypes.nextOf
 refine Yd (wpAny_callSpecial?_slot (name:=Str.ofString "__next__") hit.typeIs F.slot_tuple_iterator_next (wpAny_call_entry F.slot_tuple_iterator_next hit.typeIs F.entry_tuple_iterator_next ?_ (F.args_tuple_iterator_next_1 _)))
 show wpAny _ _ (field (.ref it) 0>>=_) _ _ s
 refine Yd (wpAny_field ho hd (x:=.ref t) rfl ?_)
 show wpAny _ _ (if (Value.ref t==Value.none)=true then _ else _) _ _ s
 rw [if_neg (show ¬ ((Value.ref t==Value.none)=true) from Yt)]
 show wpAny _ _ (field (.ref it) 1>>=_) _ _ s
 refine Yd (wpAny_field ho hd (x:=.int k 0) rfl ?_)
 show wpAny _ _ (seqItems? (.ref t)>>=_) _ _ s
 refine Yd (wpAny_seqItems hol hdl ?_)
 simp only [Int.toNat_natCast,hx]
 refine Yd (wpAny_rule (Yd (wpAny_setField ho hd (by simp) ?_)))
 show wpAny _ _ (newExc (.type "StopIteration") []>>=_) _ _ _
 refine Yd ?_
 simp only [newExc,newTuple]
 refine Yd (wpAny_newObj_type ?_ (by size_fits))
 refine Yd (m:=firstArgMember _ _) (wpAny_of_eq (a:=Value.none) (by first | rfl | (simp only [firstArgMember]; rfl)) ?_)
 refine wpAny_newObj_type ?_ (by size_fits)
 simp only [raiseNew]
 refine Yd (wpAny_handled ?_)
 rw [show A.in1.handled=none from hh]
 refine Yd (Yf (wpAny_throw ?_))
 exact hE _ _ (((YX.update ..).extBut.push _).push _) ⟨_,Yo _ rfl,rfl⟩
end
theorem dG(i l:Addr)(xs:Array Value)(hne:l≠i):rG P w i l xs fun k h=>h.IsTupleIter i l k∧h.IsTuple l xs where
 item:=fun A s k x Q E st hx hQ=>rV st.1 st.2 hx fun h' it' hs=>hQ h' ⟨it',st.2.extBut hs.extBut hne⟩ hs
 fin:=fun A s k Q E hh st hx hE=>vJ hh st.1 st.2 hx hE
 keep:=fun h h' k st hk=>⟨let ⟨o,ho,r⟩:=st.1; ⟨o,hk i (.inl rfl) o ho,r⟩,let ⟨o,ho,r⟩:=st.2; ⟨o,hk l (.inr rfl) o ho,r⟩⟩
end
abbrev ZAt(h:Heap)(z TI TO:Addr)(f0:Value)(f1:Bool):Prop:=
 h.get? z=some {cls:=.type "zip",dict:=none,data:=.fields #[f0,.bool f1,.bool false,.ref TI,.ref TO],slots:=#[]}
structure ZSt(It1 It2:Nat→Heap→Prop)(z TI TO i1 i2:Addr)(k:Nat)(h:Heap):Prop where
 z:∃ f0 f1,ZAt h z TI TO f0 f1∧(f0=.none∨∃ (T:Addr) (o:Obj),f0=rawInt (T:Int)∧h.get? T=some o∧T≠z∧T≠TO∧T≠i1∧T≠i2)
 ti:IsPair h TI (.ref i1) (.ref i2)
 to:∃ a b,IsPair h TO a b
 a:It1 k h
 b:It2 k h
section
variable{P:Program}{w:World}{A:Around}{E:Value→Shared→Prop}{s:Shared}{It1 It2:Nat→Heap→Prop}{z TI TO i1 i2 l1 l2:Addr}{xs ys:Array Value}{k:Nat}{x y:Value}
theorem zF{Q:Option Value→Shared→Prop}(hh:A.handled=none)(D:ZipApart z TI TO i1 i2 l1 l2)(F1:rG P w i1 l1 xs It1)(st:ZSt It1 It2 z TI TO i1 i2 k s.heap)(hx:xs[k]? = none)
  (hQ:∀ h',(∀ c o,c≠z→c≠TO→c≠i1→c≠i2→s.heap.get? c=some o→h'.get? c=some o)→Q none {s with heap:=h'}) :
  wpAny (model P w) A (pyNext (.ref z)) Q E s:=by
 obtain⟨⟨f0,f1,hz,hf⟩,hTI,⟨a,b,hTO⟩,h1,h2⟩:=st
 have hT:s.TypeIs (.ref z) "zip":=⟨_,hz,rfl⟩
 unfold pyNext
 refine Yd (wpAny_attempt (wpAny_callSpecial?_slot (name:=Str.ofString "__next__") hT F.slot_zip_next (wpAny_call_entry F.slot_zip_next hT F.entry_zip_next ?_ (F.args_zip_next_1 _))))
 refine Ym (Q:=fun _ _=>False) (E:=fun e s'=>∃ h' a,e=.ref a∧s'={s with heap:=h'}∧(∀ c o,c≠z→c≠TO→c≠i1→c≠i2→s.heap.get? c=some o→h'.get? c=some o)∧∃ o,h'.get? a=some o∧o.cls=.type "StopIteration") ?_ (fun _ _ q=>q.elim) ?_
 ·show wpAny _ _ (field (.ref z) 2>>=_) _ _ _
  refine Yd (wpAny_field hz rfl (x:=.bool false) rfl ?_)
  show wpAny _ _ (field (.ref z) 3>>=_) _ _ _
  refine Yd (wpAny_field hz rfl (x:=.ref TI) rfl (Yd (wpAny_seqItems hTI rfl ?_)))
  show wpAny _ _ (Builtin.SmallTypes.ownedTupleIsFree (.ref z)>>=_) _ _ _
  refine Yd ?_
  rcases hf with rfl | ⟨T,oT,rfl,hT0,tz,tTO,t1,t2⟩
  ·unfold Builtin.SmallTypes.ownedTupleIsFree
   refine Yd (wpAny_field hz rfl (x:=.none) rfl (Yf ?_))
   simp only [if_true]
   refine Yd (wpAny_rule ?_)
   refine Yd (wpAny_field hz rfl (x:=.ref TO) rfl ?_)
   refine Yd (wpAny_setField_rec hz (by simp) fun h₁ hz₁ hs₁=>?_)
   replace hz₁:ZAt h₁ z TI TO .ellipsis f1:=hz₁
   refine Yd ?_
   simp only [List.zipIdx_cons,List.zipIdx_nil,List.forIn_cons,List.forIn_nil]
   have kp1:∀ c o,c≠z→s.heap.get? c=some o→h₁.get? c=some o:=fun c o hc e=>hs₁.extBut c o hc e
   have a1:It1 k h₁:=F1.keep _ _ _ h1 fun b hb o e=>kp1 b o (by rcases hb with rfl | rfl; exact D.i1z; exact D.l1z) e
   refine Yd (Yd (wpAny_onRaise ?_))
   show wpAny _ _ (Builtin.SmallTypes.nextOf (.ref i1)>>=_) _ _ _
   refine Yd (F1.fin _ {s with heap:=h₁} k _ _ (by exact hh) a1 hx fun h₂ e hs₂ he=>?_)
   obtain⟨oe,hoe,hce⟩:=he
   have hz₂:ZAt h₂ z TI TO .ellipsis f1:=hs₂ _ _ D.i1z.symm hz₁
   have hez:e≠z:=fun q=>by subst q; rw [hz₂] at hoe; cases hoe; simp at hce
   refine wpAny_setField_rec hz₂ (by simp) fun h₃ _ hs₃=>⟨h₃,e,rfl,rfl,fun c o c1 _ c3 _ q=>hs₃.extBut _ _ c1 (hs₂ _ _ c3 (kp1 _ _ c1 q)),oe,hs₃.extBut _ _ hez hoe,hce⟩
  ·refine Ym (Q:=fun b s₁=>b=false∧∃ h₁,s₁={s with heap:=h₁}∧ZAt h₁ z TI TO (rawInt (T:Int)) true∧YX z s.heap h₁) ?_ ?_ fun _ _ q=>q
   ·unfold Builtin.SmallTypes.ownedTupleIsFree
    refine Yd (wpAny_field hz rfl (x:=rawInt (T:Int)) rfl ?_)
    show wpAny _ _ (loadIfAlive ((T:Int).toNat)>>=_) _ _ _
    rw [Int.toNat_natCast]
    refine Yd (PySem.W.kdx_alive hT0 ?_)
    simp only [Option.isNone_some,YU,if_false]
    refine Yd (wpAny_field hz rfl (x:=.bool f1) rfl ?_)
    cases f1 with
    | true=>
     rw [if_neg (show ¬ ((Value.bool true != Value.bool true)=true) from Yt)]
     exact Yf ⟨rfl,_,rfl,hz,YX.refl _ _⟩
    | false=>
     rw [if_pos (show (Value.bool false != Value.bool true)=true from rfl)]
     refine Yd (wpAny_setField_rec hz (by simp) fun h₁ hz₁ hs₁=>?_)
     exact Yf ⟨rfl,_,rfl,hz₁,hs₁⟩
   ·rintro b' s₁ ⟨rfl,h₁,rfl,hz₁,hs₁⟩
    simp only [YU,if_false]
    have kp1:∀ c o,c≠z→s.heap.get? c=some o→h₁.get? c=some o:=fun c o hc e=>hs₁.extBut c o hc e
    have a1:It1 k h₁:=F1.keep _ _ _ h1 fun b hb o e=>kp1 b o (by rcases hb with rfl | rfl; exact D.i1z; exact D.l1z) e
    refine Yd ?_
    rw [← Array.forIn_toList]
    simp only [List.forIn_cons,List.forIn_nil]
    refine Yd (Yd (wpAny_holding ?_))
    show wpAny _ _ (Builtin.SmallTypes.nextOf (.ref i1)>>=_) _ _ _
    refine Yd (F1.fin _ {s with heap:=h₁} k _ _ (by exact hh) a1 hx fun h₂ e hs₂ he=>?_)
    exact⟨h₂,e,rfl,rfl,fun c o c1 _ c3 _ q=>hs₂ _ _ c3 (kp1 _ _ c1 q),he⟩
 ·rintro e s' ⟨h',c,rfl,rfl,hk,o,ho,hc⟩
  refine Yd (wpAny_isInstance (T:="StopIteration") (b:=true) ⟨o,ho,hc⟩ isSubtype_stop ?_)
  exact Yf (hQ _ hk)
end
section
variable{P:Program}{w:World}{A:Around}{R:Result→Shared→Prop}{It1 It2:Nat→Heap→Prop}{z TI TO i1 i2 l1 l2 d:Addr}{xs ys:Array Value}{ws:List Str}
end
section
variable{P:Program}{w:World}{A:Around}{E:Value→Shared→Prop}{s:Shared}{l1 l2:Addr}{xs ys:Array Value}
end
theorem zt:bootBuiltins "zip"=some (.type "zip"):=by decide +kernel
end L2
set_option maxHeartbeats 4000000
namespace L2
open PySem PySem.Spec PyProof.Rows
section
variable{P:Program}{w:World}{A:Around}{R:Result→Shared→Prop}{s:Shared}{elt tg iter tg2 iter2:Expr}{ifs:List Expr}{scope:Scope}{pos:Pos}{it acc:Value}{env:Env}
end
section
variable{X:Cx}{n:Nat}{N':List Str}{scope:Scope}{elt tg iter tg2 iter2:Expr}{ifs:List Expr}{pos:Pos}{pins:List (Addr×Obj)}{σ:St}{H2:Hp}{s2:Shared}{cl:List (Str×Addr)}
end
end L2
set_option maxHeartbeats 1000000
namespace L2
open PySem PySem.Spec PyProof.Rows
section
variable{X:Cx}
end
end L2
set_option maxHeartbeats 4000000
namespace L2
open PySem PySem.Spec PyProof.Rows
theorem dS{prog:Program}{w:World}{A:Around}{R:Result→Shared→Prop}{s:Shared}{kx vx target iter:Expr}{scope:Scope}{pos:Pos}{it:Value}{D:Addr}{env:Env}(I:Nat→Shared→Prop)
  (turn:∀ n s,I n s→wpAny (model prog w) A (pyNext it) (fun r s1=>match r with
   | none=>R (.ok .next) s1
   | some v=>wpAny (model prog w) A (letOwnedTupleGo target it v) (fun _ s1'=>wpAny (model prog w) A (assign target env v) (fun _ s2=>
     wpAny (model prog w) A (eval kx env) (fun kv s4=>wpAny (model prog w) A (eval vx env) (fun vv s5=>
       wpAny (model prog w) A (dictSet D kv vv) (fun _ s6=>∃ m,m<n∧I m s6) (notedBy (model prog w) A env fun e s'=>R (.error e) s') s5) (notedBy (model prog w) A env fun e s'=>R (.error e) s') s4) (notedBy (model prog w) A env fun e s'=>R (.error e) s') s2)
     (notedBy (model prog w) A env fun e s'=>R (.error e) s') s1') (notedBy (model prog w) A env fun e s'=>R (.error e) s') s1) (notedBy (model prog w) A env fun e s'=>R (.error e) s') s)
  (n:Nat) (h:I n s):codeAny (model prog w) A (.compLoop (.DictComp kx vx [⟨target,iter,[],0⟩] scope pos) 0 it (.ref D) env) R s:=by
 refine codeAny_loop rfl I (fun n s hI=>?_) n h
 show wpAny _ A ((compTurn (.DictComp kx vx [⟨target,iter,[],0⟩] scope pos) 0 it (.ref D) env).onRaise (fun x=>do noteFrame x env; theTreesLotGoes x)) _ _ s
 refine wpAny_noted ?_
 rw [compTurn_dict]
 refine Yd (wpAny_standAt (Yd (Ym (turn n s hI) (fun r s1 h1=>?_) fun _ _ h'=>h')))
 cases r with
 | none=>exact Yf h1
 | some v=>
  refine Yd (Ym h1 (fun _ s1' h1'=>?_) fun _ _ h'=>h')
  refine Yd (Ym h1' (fun _ s2 h2=>?_) fun _ _ h'=>h')
  refine Yd (Yf ?_)
  exact Yd (Yd (Ym h2 (fun kv s4 h4=>Yd (wpAny_holding (Ym h4 (fun vv s5 h5=>Yd (wpAny_standAt (wpAny_holding (Ym h5 (fun _ s6 h6=>Yf ⟨rfl,h6⟩) fun _ _ h'=>h')))) fun _ _ h'=>h'))) fun _ _ h'=>h'))
def ij(n:Nat)(J:It)(g:TG)(tk tv:TE)(σ:St)(H:Hp)(Q:VK):Prop:=
 ∃ W:Nat→Nat→List (Key×V)→St→Hp→Prop,(∃ m,W 0 m [] (List.replicate n none++σ) H)∧∀ i m kvs σ' H,W i m kvs σ' H→
  (J.stop i H∧∀ D,H D=none→Q (.ref D) (upd H D (.dK kvs)))∨
  (J.go i H∧kvs.length<sizeLine∧∀ x H',J.yld i H x H'→g x σ' H' fun σ2 H2=>tk σ2 H2 fun y H3=>tv σ2 H3 fun v H4=>∃ k,y=kV k∧∃ m',m'<m∧W (i+1) m' (cr kvs k v) σ2 H4)
def si(n:Nat)(wi:TI)(g:au TG)(tk tv:au TE):TE:=fun σ H Q=>wi σ H fun J H1=>∀ cl C ex s Hc,ij n J (g cl C ex s Hc) (tk cl C ex s Hc) (tv cl C ex s Hc) σ H1 Q
section
variable{X:Cx}{n:Nat}{N':List Str}{scope:Scope}{kx vx tg iter:Expr}{pos:Pos}{pins:List (Addr×Obj)}{σ:St}{H2:Hp}{s2:Shared}{cl:List (Str×Addr)}
theorem rc{C D:Addr}{fp:List Addr}{s':Shared}{od:Obj}(hnc:∀ v,od.data≠.cell v)(S:aE n N' X scope)(c1:∀ x c,cl.lookup x=some c→X.env.cells.lookup x=some c)(c2:∀ x∈scope.names,x.2=.free→∃ c,cl.lookup x.1=some c)
  (I2:Inv X pins σ H2 s2) (f2:∀ b∈fp,dy X pins H2 b) (fl:∀ b∈fp,@LT.lt Nat _ b s2.heap.objs.size) (hD:@Eq Nat D s2.heap.objs.size) (hC:@Eq Nat C (s2.heap.objs.size+1))
  (ho:s'.os=s2.os) (hg:s'.gens=s2.gens) (old:∀ b o,s2.heap.get? b=some o→s'.heap.get? b=some o) (hns:∃ m,s'.heap.Ns C m) (hd:s'.heap.get? D=some od) :
  Inv (ak X N' scope cl C fp s2 H2) [(D,od)] (List.replicate n none++σ) H2 s':=by
 have frl:∀ b∈frs X.stack,@LT.lt Nat _ b s2.heap.objs.size:=fun b hb=>by
  obtain⟨_,o,ho,_⟩:=I2.stack.mem hb
  exact Yi ho
 have celll:∀ x c,cl.lookup x=some c→c<s2.heap.objs.size:=fun x c e=>by
  obtain⟨v,q⟩:=I2.cell x c (c1 x c e)
  exact q.lt
 have kOf:∀ x,(ak X N' scope cl C fp s2 H2).env.kindOf x=(scope.names.lookup x).map fun k=>if (k==NameKind.free&&X.env.scope.kind==.function&&X.env.kindOf x==some .cell) then NameKind.cell else k:=fun x=>bC
 have kfree:∀ x,((ak X N' scope cl C fp s2 H2).env.kindOf x=some .cell∨(ak X N' scope cl C fp s2 H2).env.kindOf x=some .free)→scope.names.lookup x=some .free:=fun x hx=>by
  rw [kOf x] at hx
  cases e:scope.names.lookup x with
  | none=>rw [e] at hx; rcases hx with hx | hx <;> cases hx
  | some kd=>
   rw [e] at hx
   cases kd with
   | free=>rfl
   | «local»=>rcases hx with hx | hx <;> (simp at hx)
   | cell=>exact absurd rfl (S.cell _ (PySem.mem_of_lookup e))
   | globalExplicit=>rcases hx with hx | hx <;> (simp at hx)
   | globalImplicit=>rcases hx with hx | hx <;> (simp at hx)
 have hasC:∀ x,scope.names.lookup x=some .free→∃ c,cl.lookup x=some c:=fun x hx=>c2 _ (PySem.mem_of_lookup hx) rfl
 have hH:∀ a,s2.heap.objs.size≤a→H2 a=none:=fun a ha=>I2.hok.fresh ha
 have ok:(ak X N' scope cl C fp s2 H2).Ok:=by
  refine⟨I2.ok.mod,S.kind,I2.ok.glob,I2.ok.blt,?_,fun x y c h1 h2=>?_,fun x hx=>hasC x (kfree x hx),fun x c h=>absurd h (by show ¬ (false=true); decide),I2.ok.hd,I2.ok.frames,.inl rfl,fun b hb=>?_,I2.bs,Yn I2.ok.bsz I2.sz,fun b o e hb=>?_,fun b hb z=>?_,I2.stack,I2.stkFree⟩
  ·show s2.heap.objs.size≤C
   omega
  ·exact I2.ok.inj x y c (c1 x c h1) (c1 y c h2)
  ·have:=fl b hb
   refine⟨by show @Ne Nat b C; omega,fun x c e z=>?_⟩
   exact(f2 b hb).2.2.2.2.1 x c (c1 x c e) z
  ·obtain⟨f0,f1,ff,f3,_⟩:=f2 b hb
   rcases f3 with z | z
   ·exact I2.ok.noex b o e z
   ·have q1:@LT.lt Nat _ b X.base.objs.size:=Yi e
    have q2:=I2.ok.bsz
    have q3:@LE.le Nat _ X.s₀.heap.objs.size b:=z
    omega
  ·obtain⟨f0,f1,ff,_⟩:=f2 b hb
   exact(Yr.mp (I2.stkSub b z)).elim f1 ff
 refine⟨ok,ho,by rw [hg]; exact I2.bare,Un.kept old,?_,fun x c e=>?_,?_,fun x c e=>?_,fun p hp=>?_,I2.hok.kept old,?_⟩
 ·obtain⟨m,hn⟩:=hns
  refine⟨m,hn,fun i x v e1 e2 e3=>?_⟩
  have e2':(List.replicate n (none:Option V)++σ)[i]? = some (some v):=e2
  have e1':N'[i]? = some x:=e1
  by_cases hi:i<n
  ·rw [Xv (by simpa using hi),List.getElem?_replicate] at e2'
   split at e2' <;> cases e2'
  ·obtain⟨j,rfl⟩:∃ j,i=n+j:=⟨i-n,by omega⟩
   rw [Xp (by simp)] at e2'
   simp only [Y3,Nat.add_sub_cancel_left] at e2'
   have hj:j<X.N.length:=by rw [← I2.len]; exact(Yv.mp e2').1
   have lk:=Xy.mp S.look j (List.mem_range.mpr hj)
   rw [e1'] at lk
   have vis:scope.names.lookup x=some .local∨scope.names.lookup x=some .cell∨scope.names.lookup x=some .free:=by
    have e3':(ak X N' scope cl C fp s2 H2).env.kindOf x=some .local∨(ak X N' scope cl C fp s2 H2).env.kindOf x=some .cell∨(ak X N' scope cl C fp s2 H2).env.kindOf x=some .free:=e3
    rcases e3' with z | z | z
    ·rw [kOf x] at z
     cases e:scope.names.lookup x with
     | none=>rw [e] at z; cases z
     | some kd=>
      rw [e] at z
      simp only [Y0] at z
      split at z
      ·cases z
      ·cases z; exact .inl rfl
    ·exact .inr (.inr (kfree x (.inl z)))
    ·exact .inr (.inr (kfree x (.inr z)))
   have lk2:scope.names.lookup x=some .free∧X.N[j]? = some x:=by
    simp only [Bool.or_eq_true,YK,Bool.not_eq_true',Bool.or_eq_false_iff,beq_iff_eq,beq_eq_false_iff_ne] at lk
    rcases lk with z | z
    ·exact z
    ·rcases vis with q | q | q
     ·exact absurd q z.1.1
     ·exact absurd q z.1.2
     ·exact absurd q z.2
   obtain⟨m0,hn0,hl0⟩:=I2.loc
   have vX:Vis X.env.scope x:=by
    rcases S.free _ (PySem.mem_of_lookup lk2.1) rfl with z | z
    ·exact .inr (.inl z)
    ·exact .inr (.inr z)
   obtain⟨u,r,l⟩:=hl0 j x v lk2.2 e2' vX
   refine⟨u,r,.inr ⟨?_,?_⟩⟩
   ·rw [kOf x,lk2.1]
    simp only [Y0]
    split
    ·exact .inl rfl
    ·exact .inr rfl
   ·obtain⟨c,hc⟩:=hasC x lk2.1
    refine⟨c,hc,?_⟩
    rcases l with ⟨kl,_⟩ | ⟨_,c',hc',z⟩
    ·rcases S.free _ (PySem.mem_of_lookup lk2.1) rfl with q | q <;> (rw [kl] at q; cases q)
    ·have:=c1 x c hc
     rw [hc'] at this; cases this
     obtain⟨oc,hoc,hdc⟩:=z
     exact⟨oc,old _ _ hoc,hdc⟩
 ·obtain⟨v,oc,hoc,hdc⟩:=I2.cell x c (c1 x c e)
  exact⟨v,oc,old _ _ hoc,hdc⟩
 ·exact hH C (by omega)
 ·exact I2.freeC x c (c1 x c e)
 ·have e:p=(D,od):=by simpa [ak] using hp
  subst e
  refine⟨hd,hH D (by omega),by show @Ne Nat D C; omega,fun z=>?_,hnc⟩
  have:=frl D z
  omega
 ·show (List.replicate n none++σ).length=N'.length
  rw [Yw,Y3,S.len,I2.len]
theorem mM{E0:XK}{it:Addr}{fp:List Addr}{tn:Nat→Heap→Prop}{J:It}{g:au TG}{tk tv:au TE}{Q:VK}{E:Value→Shared→Prop}
  (hc:X.calm=true) (S:aE n N' X scope) (c1:∀ x c,cl.lookup x=some c→X.env.cells.lookup x=some c) (c2:∀ x∈scope.names,x.2=.free→∃ c,cl.lookup x.1=some c)
  (I2:Inv X pins σ H2 s2) (T:hV X.prog X.w X.K tg J fp it tn) (st2:tn 0 s2.heap) (f2:∀ b∈fp,dy X pins H2 b)
  (hg:∀ cl C ex s H,PG ((ak X N' scope cl C ex s H).exc E0) tg (g cl C ex s H)) (hk:∀ cl C ex s H,PE ((ak X N' scope cl C ex s H).exc E0) kx (tk cl C ex s H)) (hv:∀ cl C ex s H,PE ((ak X N' scope cl C ex s H).exc E0) vx (tv cl C ex s H))
  (cok:∀ cl C ex s Hc,ij n J (g cl C ex s Hc) (tk cl C ex s Hc) (tv cl C ex s Hc) σ H2 Q) :
  wpAny (model X.prog X.w) X.A newDict (fun acc s3=>wpAny (model X.prog X.w) X.A (newFunctionEnv scope X.env.globals cl [] X.env.qual none .none (some X.env)) (fun cenv s4=>
   codeAny (model X.prog X.w) X.A (.compStart (.DictComp kx vx [⟨tg,iter,[],0⟩] scope pos) 0 (.ref it) acc {cenv with scope:=relabel scope X.env})
    (fun r s'=>match r with | .ok _=>bp X pins σ Q acc cenv.locals s' | .error x=>bI (ak X N' scope cl cenv.locals fp s2 H2) E0 x s') s4) E s3) E s2:=by
 have fl:∀ b∈fp,@LT.lt Nat _ b s2.heap.objs.size:=fun b hb=>by
  obtain⟨o,e,_⟩:=T.obj _ _ st2 b hb
  exact Yi e
 have frl:∀ b∈frs X.stack,@LT.lt Nat _ b s2.heap.objs.size:=fun b hb=>by
  obtain⟨_,o,ho,_⟩:=I2.stack.mem hb
  exact Yi ho
 have celll:∀ x c,X.env.cells.lookup x=some c→@LT.lt Nat _ c s2.heap.objs.size:=fun x c e=>by
  obtain⟨v,q⟩:=I2.cell x c e
  exact q.lt
 refine wpAny_newObj_type (wpAny_newFunctionEnv S.cell (by intro y hy; simp at hy) (fun h1 hns1 hsb1=>?_) S.kind)
 dsimp only at hns1 hsb1 ⊢
 generalize hH2:s2.heap.push {cls:=.type "dict",dict:=none,data:=.dict #[]}=G at hns1 hsb1 ⊢
 have hC:@Eq Nat G.objs.size (s2.heap.objs.size+1):=by rw [← hH2,YO]
 have hDC:s2.heap.objs.size≠G.objs.size:=by show @Ne Nat _ _; omega
 have below:∀ b,@LT.lt Nat _ b s2.heap.objs.size→b≠G.objs.size∧b≠s2.heap.objs.size:=fun b hb=>⟨by show @Ne Nat _ _; omega,Yu hb⟩
 have old:∀ b o,s2.heap.get? b=some o→h1.get? b=some o:=fun b o e=>hsb1.extBut b o (below b (Yi e)).1 (Ye _ (hH2▸Ye _ e))
 have hacc:h1.get? s2.heap.objs.size=some {cls:=.type "dict",data:=.dict #[]}:=hsb1.extBut _ _ hDC (Ye _ (hH2▸Yo _ rfl))
 have hst1:tn 0 h1:=T.keep _ _ _ st2 fun b hb o e=>old b o e
 let X':=ak X N' scope cl G.objs.size fp s2 H2
 obtain⟨W,⟨m0,w0⟩,turn⟩:=cok cl G.objs.size fp s2 H2
 have hXe:X'.xe=X.xe:=rfl
 have stat:∀ {H':Hp} {ps:List (Addr×Obj)},(∀ b∈fp,H' b=none)→(∀ p∈ps,p.1=s2.heap.objs.size)→∀ b∈fp,dy X' ps H' b:=fun {H' ps} hn hp b hb=>by
  obtain⟨f0,f1,ff,f3,f4,f5⟩:=f2 b hb
  refine⟨hn b hb,(below b (fl b hb)).1,fun z=>?_,.inl hb,fun x c e z=>?_,fun p hp' z=>?_⟩
  ·exact(Yr.mp (I2.stkSub b z)).elim f1 ff
  ·exact f4 x c (c1 x c e) z
  ·have e:p.1=s2.heap.objs.size:=hp p (by simpa [X',ak] using hp')
   exact(below b (fl b hb)).2 (z.symm.trans e)
 have loop:∀ s3:Shared,s3={s2 with heap:=h1,toks:=s2.toks+([]:List (Str×Value)).length}→
   codeAny (model X.prog X.w) X.A (.compLoop (.DictComp kx vx [⟨tg,iter,[],0⟩] scope pos) 0 (.ref it) (.ref s2.heap.objs.size) (compEnvC scope cl G.objs.size X.env))
    (fun r s'=>match r with | .ok _=>bp X pins σ Q (.ref s2.heap.objs.size) G.objs.size s' | .error x=>bI (ak X N' scope cl G.objs.size fp s2 H2) E0 x s') s3:=by
  rintro s3 rfl
  have I3:=rc (od:={cls:=.type "dict",data:=.dict #[]}) (fun v z=>by cases z) (s':={s2 with heap:=h1,toks:=s2.toks+([]:List (Str×Value)).length}) S c1 c2 I2 f2 fl rfl hC rfl rfl old ⟨_,hns1⟩ hacc
  have hd0:h1.DictOf (az X.prog X.w) s2.heap.objs.size []:=⟨_,_,_,hacc,⟨rfl,rfl,rfl⟩,rfl,by intro e he; simp at he,.nil,List.nodup_nil⟩
  refine dS (fun m s'=>∃ i ys us od σ' H',Inv X' [(s2.heap.objs.size,od)] σ' H' s'∧KV ys us∧s'.heap.DictOf (az X.prog X.w) s2.heap.objs.size us∧tn i s'.heap∧(∀ b∈fp,H' b=none)∧ys.length≤sizeLine∧W i m ys σ' H') ?_ m0
   ⟨0,[],[],_,_,H2,I3,.nil,hd0,hst1,fun b hb=>(f2 b hb).1,Yy _,w0⟩
  rintro m s' ⟨i,ys,us,od,σ',H',I',rv,dd,st',fr',hlen,w'⟩
  rcases turn i m ys σ' H' w' with ⟨stop,q⟩ | ⟨go,hlt,step⟩
  ·refine thn (T.done X' rfl rfl rfl hc i _ s' σ' H' _ I' (stat fr' (by simp)) st' stop) fun r s4 ⟨hr,I4⟩=>?_
   subst hr
   show bp X pins σ Q (.ref s2.heap.objs.size) G.objs.size s4
   obtain⟨m1,hn1,_⟩:=I4.loc
   obtain⟨pD,nD,_,_,_⟩:=I4.pin (s2.heap.objs.size,od) (Yk _ (by simp))
   have nD:H' s2.heap.objs.size=none:=nD
   have pD:s4.heap.get? s2.heap.objs.size=some od:=pD
   have hok:HOk X.prog X.w (upd H' s2.heap.objs.size (.dK ys)) s4.heap:=fun b u e=>by
    by_cases hb:b=s2.heap.objs.size
    ·subst hb
     rw [aa] at e; cases e
     exact⟨hlen,beq_eq_false_iff_ne.mpr (Xl I2.big),us,rv,dd.at fun o e=>by rw [(I'.pin (s2.heap.objs.size,od) (Yk _ (by simp))).1] at e; cases e; exact pD⟩
    ·rw [ac hb] at e
     exact(I4.hok b u e).stay (fun _ _ _ q=>q) (fun c q=>by rw [ac (ae q nD)]; exact q) fun c xs q=>by rw [ac (ae q nD)]; exact q
   have un:Un (frs X.stack) fp H2 (upd H' s2.heap.objs.size (.dK ys)) s2.heap s4.heap:=by
    have u0:=I4.base
    refine⟨u0.keep,u0.slot,fun b o e n hx=>?_,u0.there,fun b xs e=>?_,fun b o xs e=>?_,fun b ps e=>?_⟩
    ·rw [ac (below b (Yi e)).2]; exact u0.free b o e n hx
    ·have q:=u0.tups b xs e
     rw [ac (ae q nD)]; exact q
    ·have q:=u0.frzs b o xs e
     rw [ac (ae q nD)]; exact q
    ·obtain⟨more,q⟩:=u0.tbls b ps e
     exact⟨more,by rw [ac (ae q nD)]; exact q⟩
   have IX:Inv X pins σ (upd H' s2.heap.objs.size (.dK ys)) s4:=I2.call' (ch:=fp) I4.os un hok I4.bare fun b hb=>by
    obtain⟨f0,f1,ff,f3,f4,f5⟩:=f2 b hb
    exact⟨f3,f1,f4,f5⟩
   have hG0:H' G.objs.size=none:=I4.free
   refine⟨s2.heap.objs.size,_,m1,rfl,IX,hn1,⟨by rw [ac (Ne.symm hDC)]; exact hG0,fun z=>?_,fun z=>?_,.inr ?_,fun x c e z=>?_,fun p hp z=>?_⟩,q _ nD⟩
   ·have q1:@LT.lt Nat _ X.env.locals s2.heap.objs.size:=I2.lt
    have q2:@Eq Nat G.objs.size X.env.locals:=z
    omega
   ·have z':G.objs.size∈frs X.outer:=z
    obtain⟨_,o,ho,_⟩:=I2.funs.mem z'
    have q1:@LT.lt Nat _ G.objs.size s2.heap.objs.size:=Yi ho
    omega
   ·have q1:=I2.sz
    show @LE.le Nat _ X.s₀.heap.objs.size G.objs.size
    omega
   ·have q1:=celll x c e
    have q2:@Eq Nat c G.objs.size:=z
    omega
   ·have q1:@LT.lt Nat _ p.1 s2.heap.objs.size:=Yi (I2.pin p hp).1
    have q2:@Eq Nat p.1 G.objs.size:=z
    omega
  ·refine thn (T.item X' rfl rfl rfl hc i _ s' σ' H' _ I' (stat fr' (by simp)) st' go) fun r s4 ⟨u,hr,h4⟩=>?_
   subst hr
   show wpAny _ _ (letOwnedTupleGo tg (.ref it) u) _ _ s4
   refine thn h4 fun _ s5 ⟨x,H5,I5,r5,y5,st5,fr5⟩=>?_
   have I5':=I5.pinned (stat fr5 (by simp)) (T.obj _ _ st5)
   have w1:=hg cl G.objs.size fp s2 H2 _ s5 σ' H5 x u _ (I5'.wish _) r5 (step x H5 y5)
   refine Ym w1 (fun _ s6 ⟨σ6,H6,I6,q6⟩=>?_) fun v s hv=>Ym (XE.note (X:=ak X N' scope cl G.objs.size fp s2 H2) (E:=E0) hv) (fun _ _ z=>z) fun _ _ z=>z
   have w2:=hk cl G.objs.size fp s2 H2 _ s6 σ6 H6 _ I6 q6
   refine Ym w2 (fun yk s65 ⟨v0,H65,I65,r65,q65⟩=>?_) fun v s hv=>Ym (XE.note (X:=ak X N' scope cl G.objs.size fp s2 H2) (E:=E0) hv) (fun _ _ z=>z) fun _ _ z=>z
   have w3:=hv cl G.objs.size fp s2 H2 _ s65 σ6 H65 _ I65 q65
   refine Ym w3 (fun y s7 ⟨v,H7,I7w,r7,kk,ek,m',hm',w7⟩=>?_) fun v s hv=>Ym (XE.note (X:=ak X N' scope cl G.objs.size fp s2 H2) (E:=E0) hv) (fun _ _ z=>z) fun _ _ z=>z
   subst ek
   have I7:=I7w.unwish
   have pinD:=I7.pin (s2.heap.objs.size,od) (Yk _ (YT _ (by simp)))
   obtain⟨pD,nD,lD,fD,_⟩:=pinD
   have dd7:s7.heap.DictOf (az X.prog X.w) s2.heap.objs.size us:=dd.at fun o e=>by rw [(I'.pin (s2.heap.objs.size,od) (Yk _ (by simp))).1] at e; cases e; exact pD
   refine wpAny_dictSet_pairs (knd:=az X.prog X.w) (jQ r65) dd7 (fun h8 dd8 hs8=>?_) (by rw [← rv.length]; exact hlen)
   obtain⟨o8,es8,ep8,ho8,hx8,hd8,_⟩:=id dd8
   have nD:H7 s2.heap.objs.size=none:=nD
   have I8:Inv X' (bz fp s5.heap) σ6 H7 {s7 with heap:=h8,toks:=s7.toks+1}:=by
    refine(I7.pins_of (pins':=bz fp s5.heap) fun p hp=>I7.pin p (Yk _ (Yk _ hp))).turned (t':=s7.toks+1) (it:=s2.heap.objs.size) (fun b o hb e=>(hs8.2 b hb).trans e) nD lD (.inr (Yg _)) (fun x c e z=>?_) fun p hp z=>?_
    ·have q1:=celll x c (c1 x c e)
     have q2:@Eq Nat c s2.heap.objs.size:=z
     omega
    ·have hp':p∈bz fp s5.heap:=by simpa [X',ak] using hp
     have q1:=fl p.1 (dE hp').1
     have q2:@Eq Nat p.1 s2.heap.objs.size:=z
     omega
   have I9:Inv X' [(s2.heap.objs.size,o8)] σ6 H7 {s7 with heap:=h8,toks:=s7.toks+1}:=I8.pins_of fun p hp=>by
    have e:p=(s2.heap.objs.size,o8):=by simpa using hp
    subst e
    exact⟨ho8,nD,lD,fD,fun v z=>by rw [hd8] at z; cases z⟩
   refine⟨m',hm',i+1,_,_,o8,σ6,H7,I9,rv.put kk r7,dd8,T.keep _ _ _ st5 fun b hb o e=>?_,fun b hb=>?_,?_,w7⟩
   ·exact(I8.pin (b,o) (Yk _ (aH hb e))).1
   ·obtain⟨o,e,d⟩:=T.obj _ _ st5 b hb
    exact(I8.pin (b,o) (Yk _ (aH hb e))).2.1
   ·have:=bE ys kk v; omega
 exact codeAny_compStart_dict (loop _ rfl) (T.self _ 0 _ _ _ hst1 (loop _ rfl))
theorem qB{E0:XK}{wi:TI}{g:au TG}{tk tv:au TE}(fr:bY X)(hc:X.calm=true)(S:aE n N' X scope)(hi:PI (X.exc E0) tg iter wi)
  (hg:∀ cl C ex s H,PG ((ak X N' scope cl C ex s H).exc E0) tg (g cl C ex s H)) (hk:∀ cl C ex s H,PE ((ak X N' scope cl C ex s H).exc E0) kx (tk cl C ex s H)) (hv:∀ cl C ex s H,PE ((ak X N' scope cl C ex s H).exc E0) vx (tv cl C ex s H))
  (hs:∀ x,foldedSetIterable iter X.env x=pure x:=by intro _; rfl):PE (X.exc E0) (.DictComp kx vx [⟨tg,iter,[],0⟩] scope pos) (si n wi g tk tv):=by
 intro pins s σ H Q I h
 rw [PySem.arm_eval_DictComp]
 obtain⟨cl,hcl,c1,c2⟩:=de (scope:=scope) (env:=X.env) fun x hx hf=>I.ok.has x.1 (S.free x hx hf)
 refine wpAny_comprehension_free (use:=none) rfl hs hcl S.kind S.names (thn (hi pins s σ H _ I h) fun v s1 h1=>thn h1 fun itv s2 h2=>?_)
 obtain⟨it,fp,tn,J,H2,e,I2w,T,st2,f2,cok⟩:=h2
 subst e
 have I2:=I2w.unwish
 refine Ym (mM (X:=X) (E0:=E0) (pos:=pos) (iter:=iter) (Q:=Q) (E:=(X.exc E0).xe) hc S c1 c2 I2 T st2 f2 hg hk hv cok) (fun acc s3 h3=>Ym h3 (fun cenv s4 h4=>codeAny_mono h4 fun r s' hr=>?_) fun _ _ z=>z) fun _ _ z=>z
 cases r with
 | error e=>exact fz I2 f2 fr hr
 | ok f=>
  obtain⟨D,H',m,rfl,I',hn,⟨f0,f1,ff,f3,f4,f5⟩,q⟩:=hr
  refine⟨m,hn,fun h' hs'=>⟨.ref D,H',Inv.wish ?_ _,rfl,q⟩⟩
  exact I'.turned (t':=s'.toks) (fun b o hb e=>(hs'.2 b hb).trans e) f0 f1 f3 f4 f5
end
end L2
set_option maxHeartbeats 1000000
namespace L2
open PySem PySem.Spec PyProof.Rows
section
variable{P:Program}{w:World}{A:Around}{E:Value→Shared→Prop}{s:Shared}
theorem qe{A:Around}(hh:A.handled=none)(it l:Addr)(its:Array Value)(k:Nat)(ne:l≠it)(hk:k≤its.size):
  WalksS P w A it [it,l] [it] (fun a b=>b=a) (its.size-k) (fun i v=>its[k+i]? = some v) fun i s=>s.heap.IsListIter it l (k+i)∧s.heap.IsList l its where
 sub:=fun b hb=>by rw [Yp.mp hb]; exact Yl
 grefl:=fun _=>rfl
 gtrans:=fun a b c h1 h2=>by rw [h2,h1]
 frame:=fun i s h' tk st _ hk=>⟨st.1.at fun o e=>hk it Yl o e,st.2.at fun o e=>hk l (Yj _ Yl) o e⟩
 item:=fun i s Q E hi st q=>by
  have hlt:k+i<its.size:=by omega
  refine wpAny_pyNext_list_item st.1 st.2 (x:=its[k+i]) (by simp [hlt]) fun h1 a1 s1=>?_
  exact q _ _ (by simp [hlt]) ⟨a1,st.2.extBut s1.extBut ne⟩ ⟨fun b o hb e=>s1.extBut b o (fun z=>hb (by rw [z]; exact Yp.mpr rfl)) e,rfl,rfl,rfl,Yg _⟩
 done:=fun s Q E st q=>wpAny_pyNext_list_end hh st.1 st.2 (by have:=hk; simp; omega) fun h2 e2=>q _ ⟨fun b o hb e=>e2 b o (fun z=>hb (by rw [z]; exact Yp.mpr rfl)) e,rfl,rfl,rfl,Yg _⟩
 self:=fun i s Q E st q=>wpAny_pyIter_listiter st.1 q
theorem qd{A:Around}(hh:A.handled=none)(it l:Addr)(its:Array Value)(k:Nat)(ne:l≠it)(hk:k≤its.size):
  WalksS P w A it [it,l] [it] (fun a b=>b=a) (its.size-k) (fun i v=>its[k+i]? = some v) fun i s=>IsTupIter s.heap it l (k+i)∧IsTup s.heap l its where
 sub:=fun b hb=>by rw [Yp.mp hb]; exact Yl
 grefl:=fun _=>rfl
 gtrans:=fun a b c h1 h2=>by rw [h2,h1]
 frame:=fun i s h' tk st _ hk=>⟨let ⟨o,ho,r⟩:=st.1; ⟨o,hk it Yl o ho,r⟩,let ⟨o,ho,r⟩:=st.2; ⟨o,hk l (Yj _ Yl) o ho,r⟩⟩
 item:=fun i s Q E hi st q=>by
  have hlt:k+i<its.size:=by omega
  refine next_tuple_item st.1 st.2 (x:=its[k+i]) (by simp [hlt]) fun h1 a1 s1=>?_
  exact q _ _ (by simp [hlt]) ⟨a1,st.2.extBut s1.extBut ne⟩ ⟨fun b o hb e=>s1.extBut b o (fun z=>hb (by rw [z]; exact Yp.mpr rfl)) e,rfl,rfl,rfl,Yg _⟩
 done:=fun s Q E st q=>next_tuple_end hh st.1 st.2 (by have:=hk; simp; omega) fun h2 e2=>q _ ⟨fun b o hb e=>e2 b o (fun z=>hb (by rw [z]; exact Yp.mpr rfl)) e,rfl,rfl,rfl,Yg _⟩
 self:=fun i s Q E st q=>wpAny_pyIter_tupleiter (show s.heap.IsTupleIter it l (k+i) from st.1) q
theorem i4{its acc:Array Value}{k:Nat}(hk:k≤its.size)(h:ItemsOf (fun i v=>its[k+i]? = some v) acc (its.size-k)):acc.toList=its.toList.drop k:=by
 refine List.ext_getElem? fun i=>?_
 rw [List.getElem?_drop,Array.getElem?_toList,Array.getElem?_toList]
 cases e:acc[i]? with
 | some v=>exact(h.2 i v e).symm
 | none=>
  have hs:=h.1
  have : acc.size≤i:=by simpa using e
  symm
  simp
  omega
theorem sr{l:Addr}{its:Array Value}{Q:List Value→Shared→Prop}(hh:A.handled=none)(hl:s.heap.IsList l its)(h1:1≤its.size)(hz:its.size≤sizeLine)
  (q:∀ h' t',(∀ b o,s.heap.get? b=some o→h'.get? b=some o)→wpAny (model P w) A (newList (its.toList.drop 1)) (fun v s2=>Q (its.toList.take 1++[v]) s2) E {s with heap:=h',toks:=t'}):wpAny (model P w) A (unpackItems (.ref l) 2 (some 1)) Q E s:=by
 have ne:l≠s.heap.objs.size:=by
  obtain⟨o,e,_⟩:=hl
  exact Yu (Yi e)
 unfold unpackItems notIterableAtAll
 refine Yd (Yd (wpAny_specialOf hl.typeIs slot_list_iter.lookup (Yf ?_)))
 simp only [YU,if_false]
 refine Yd (wpAny_holding (wpAny_pyIter_list hl ?_))
 refine Yd (wpAny_holding (mI ne 1 0 _ _ ⟨_,Yo _ rfl,rfl,rfl⟩ (hl.push _) (by omega) fun h2 a2 s2=>?_))
 rw [List.drop_zero,if_neg (by rw [YV,Xm]; omega)]
 refine Yd (wpAny_holding (wpAny_collect_iter (T:="list_iterator") (.inr (.inr (.inl rfl))) (qe (show A.in1.handled=none from hh) s.heap.objs.size l its 1 ne h1) (fun i s st=>st.1.typeIs) ⟨a2,(hl.push _).extBut s2.extBut ne⟩
  (fun b hb=>?_) Yl (fun s' acc mv ia=>?_) (by omega)))
 ·have hz':s.heap.objs.size<h2.objs.size:=by
   obtain⟨o,e,_⟩:=a2
   exact Yi e
  rcases Yr.mp hb with rfl | hb
  ·exact hz'
  ·rw [Yp.mp hb]
   obtain⟨o,e,_⟩:=hl
   exact Nat.lt_trans (Yi e) hz'
 ·rw [i4 h1 ia]
  have hlen:¬ ((its.toList.drop 1).length<2-1-1):=by omega
  rw [if_neg hlen]
  refine Yd ?_
  have e1:(its.toList.drop 1).take ((its.toList.drop 1).length - (2-1-1))=its.toList.drop 1:=by rw [show (its.toList.drop 1).length - (2-1-1)=(its.toList.drop 1).length from by omega,YQ]
  have e2:(its.toList.drop 1).drop ((its.toList.drop 1).length - (2-1-1))=[]:=by rw [show (its.toList.drop 1).length - (2-1-1)=(its.toList.drop 1).length from by omega,List.drop_length]
  rw [e1,e2]
  obtain⟨mh,mg,md,mo,mt⟩:=mv
  obtain⟨h',g',d',t',o'⟩:=s'
  simp only at mg md mo mh
  subst mg md mo
  refine Ym (q h' t' (fun b o e=>?_)) (fun v s3 z=>Yf ?_) fun _ _ z=>z
  ·have nb:b≠s.heap.objs.size:=Yu (Yi e)
   exact mh b o (fun z=>nb (Yp.mp z)) (s2.extBut b o nb (Ye _ e))
  ·rw [YS]; exact z
theorem so{l:Addr}{its:Array Value}{Q:List Value→Shared→Prop}(hh:A.handled=none)(hl:IsTup s.heap l its)(h1:1≤its.size)(hz:its.size≤sizeLine)
  (q:∀ h' t',(∀ b o,s.heap.get? b=some o→h'.get? b=some o)→wpAny (model P w) A (newList (its.toList.drop 1)) (fun v s2=>Q (its.toList.take 1++[v]) s2) E {s with heap:=h',toks:=t'}):wpAny (model P w) A (unpackItems (.ref l) 2 (some 1)) Q E s:=by
 have ne:l≠s.heap.objs.size:=by
  obtain⟨o,e,_⟩:=hl
  exact Yu (Yi e)
 unfold unpackItems notIterableAtAll
 refine Yd (Yd (wpAny_specialOf hl.typeIs slot_tuple_iter.lookup (Yf ?_)))
 simp only [YU,if_false]
 refine Yd (wpAny_holding (iter_tuple hl ?_))
 refine Yd (wpAny_holding (draw_tuple ne 1 0 _ _ ⟨_,Yo _ rfl,rfl,rfl⟩ (hl.push _) (by omega) fun h2 a2 s2=>?_))
 rw [List.drop_zero,if_neg (by rw [YV,Xm]; omega)]
 refine Yd (wpAny_holding (wpAny_collect_iter (T:="tuple_iterator") (.inr (.inr (.inr rfl))) (qd (show A.in1.handled=none from hh) s.heap.objs.size l its 1 ne h1) (fun i s st=>st.1.typeIs) ⟨a2,(hl.push _).extBut s2.extBut ne⟩
  (fun b hb=>?_) Yl (fun s' acc mv ia=>?_) (by omega)))
 ·have hz':s.heap.objs.size<h2.objs.size:=by
   obtain⟨o,e,_⟩:=a2
   exact Yi e
  rcases Yr.mp hb with rfl | hb
  ·exact hz'
  ·rw [Yp.mp hb]
   obtain⟨o,e,_⟩:=hl
   exact Nat.lt_trans (Yi e) hz'
 ·rw [i4 h1 ia]
  have hlen:¬ ((its.toList.drop 1).length<2-1-1):=by omega
  rw [if_neg hlen]
  refine Yd ?_
  have e1:(its.toList.drop 1).take ((its.toList.drop 1).length - (2-1-1))=its.toList.drop 1:=by rw [show (its.toList.drop 1).length - (2-1-1)=(its.toList.drop 1).length from by omega,YQ]
  have e2:(its.toList.drop 1).drop ((its.toList.drop 1).length - (2-1-1))=[]:=by rw [show (its.toList.drop 1).length - (2-1-1)=(its.toList.drop 1).length from by omega,List.drop_length]
  rw [e1,e2]
  obtain⟨mh,mg,md,mo,mt⟩:=mv
  obtain⟨h',g',d',t',o'⟩:=s'
  simp only at mg md mo mh
  subst mg md mo
  refine Ym (q h' t' (fun b o e=>?_)) (fun v s3 z=>Yf ?_) fun _ _ z=>z
  ·have nb:b≠s.heap.objs.size:=Yu (Yi e)
   exact mh b o (fun z=>nb (Yp.mp z)) (s2.extBut b o nb (Ye _ e))
  ·rw [YS]; exact z
inductive gStar(K:XC)(t:TGs)(v:V)(σ:St)(H:Hp)(Q:St→Hp→Prop):Prop | mk (a x xs) (_:v=.ref a) (_:(SqL K H a (x::xs)∨SqT K H a (x::xs))) (_:∀ l,H l=none→t [x,.ref l] σ (upd H l (.lst xs)) Q)
theorem wj{X:Cx}{e1 e2:Expr}{p pos:Pos}{k:Nat}{t:TGs}(hc:X.calm=true)(h:PGs X [e1,e2] t)(hst:(assignEach [e1,.Starred e2 p] X.env).findIdx? (·.1)=some 1:=by rfl)
  (hm:(assignEach [e1,.Starred e2 p] X.env).map (·.2)=(assignEach [e1,e2] X.env).map (·.2):=by rfl) (hn:(assignEach [e1,.Starred e2 p] X.env).length=2:=by rfl):PG X (.Tuple [e1,.Starred e2 p] k pos) (gStar X.K t):=by
 intro pins s σ H v u Q I r hw
 obtain⟨a,x,xs,rfl,hq,hw⟩:=hw
 cases r
 rw [assign_Tuple]
 refine Yd (wpAny_standAt ?_)
 unfold unpack
 rw [hst,hn,hm]
 have fin:∀ (its:List Value) (h':Heap) (t':Nat),ap (x::xs) its→(x::xs).length≤sizeLine→(∀ b o,s.heap.get? b=some o→h'.get? b=some o)→
   wpAny (model X.prog X.w) X.A (newList (its.drop 1)) (fun v s2=>wpAny (model X.prog X.w) X.A (assignInOrder ((assignEach [e1,e2] X.env).map (·.2)) (its.take 1++[v])) (fun _ s'=>∃ σ' H',Inv X pins σ' H' s'∧Q σ' H') X.xe s2) X.xe {s with heap:=h',toks:=t'}:=by
  intro its h' t' rv hz hk
  cases rv with
  | cons r0 rs=>
   rename_i u0 us
   show wpAny _ _ (newList us) _ _ _
   have I1:Inv X pins σ H {s with heap:=h',toks:=t'}:=I.kept hk
   have hlen:=rs.length
   rw [Ys] at hz
   refine wpAny_newObj_type ?_ (by show us.toArray.size≤sizeLine; rw [Yq]; omega)
   have hf:H h'.objs.size=none:=I1.hok.fresh (Yg _)
   have I2:Inv X pins σ (upd H h'.objs.size (.lst xs)) {s with heap:=h'.push {cls:=.type "list",data:=.seq us.toArray},toks:=t'}:=
    I1.laid (t':=t') (fun b u e=>Ye _ e) (Yg _) ⟨by omega,us,0,rs,Yo _ rfl⟩
   exact h pins _ σ _ [x,.ref h'.objs.size] [u0,.ref h'.objs.size] Q I2 (.cons r0 (.cons rfl .nil)) (hw _ hf)
 rcases hq with hq | hq
 ·obtain⟨its,rv,pl,hz⟩:=I.list hq
  have hl:=rv.length
  rw [Ys] at hl hz
  refine Yd (wpAny_holding (sr (I.ok.hd hc) pl.isList (by rw [Yq]; omega) (by rw [Yq]; omega) fun h' t' hk=>?_))
  have:=fin its h' t' rv (by rw [Ys]; exact hz) hk
  simpa using this
 ·obtain⟨its,rv,ht,hz⟩:=I.tuple hq
  have hl:=rv.length
  rw [Ys] at hl hz
  refine Yd (wpAny_holding (so (I.ok.hd hc) ht (by rw [Yq]; omega) (by rw [Yq]; omega) fun h' t' hk=>?_))
  have:=fin its h' t' rv (by rw [Ys]; exact hz) hk
  simpa using this
end
section
variable{X:Cx}{E:Value→Shared→Prop}
theorem PE.wish{e:Expr}{t:TE}(h:PE X.nox e t)(E:Value→Shared→Prop):PE (X.wish E) e t:=PE.nox (X:=X.wish E) h
theorem PG.wish{e:Expr}{t:TG}(h:PG X.nox e t)(E:Value→Shared→Prop):PG (X.wish E) e t:=fun pins s σ H v u Q I r hw=>
 Ym (h pins s σ H v u Q (I.unwish.wish _) r hw) (fun _ _ ⟨σ',H',I',q⟩=>⟨σ',H',I'.unwish.wish _,q⟩) fun _ _ z=>False.elim z
theorem PI.wish{tg e:Expr}{t:TI}(h:PI X.nox tg e t)(E:Value→Shared→Prop):PI (X.wish E) tg e t:=fun pins s σ H R I hw=>
 Ym (h pins s σ H R (I.unwish.wish _) hw) (fun _ _ z=>Ym z (fun _ _ ⟨it,fp,tn,J,H2,e,I2,T,st2,f2,r⟩=>⟨it,fp,tn,J,H2,e,I2.unwish.wish _,T,st2,f2,r⟩) fun _ _ z=>False.elim z) fun _ _ z=>False.elim z
theorem tO{n:Nat}{N':List Str}{scope:Scope}{kx vx tg iter:Expr}{pos:Pos}{wi:TI}{g:au TG}{tk tv:au TE}(fr:bY X)(hc:X.calm=true)(S:aE n N' X.nox scope)(hi:PI X.nox tg iter wi)
  (hg:∀ cl C ex s H,PG (ak X.nox N' scope cl C ex s H) tg (g cl C ex s H)) (hk:∀ cl C ex s H,PE (ak X.nox N' scope cl C ex s H) kx (tk cl C ex s H)) (hv:∀ cl C ex s H,PE (ak X.nox N' scope cl C ex s H) vx (tv cl C ex s H))
  (hs:∀ x,foldedSetIterable iter X.env x=pure x:=by intro _; rfl):PE X.nox (.DictComp kx vx [⟨tg,iter,[],0⟩] scope pos) (si n wi g tk tv):=by
 intro pins s σ H Q I h
 have S':aE n N' X scope:=⟨S.kind,S.names,S.cell,S.free,S.nd,S.len,S.look⟩
 refine Ym (qB (X:=X) (E0:=fun _ _ _=>False) fr hc S' (hi.wish _) (fun cl C ex s H=>PG.wish (X:=ak X N' scope cl C ex s H) (hg cl C ex s H) _) (fun cl C ex s H=>PE.wish (X:=ak X N' scope cl C ex s H) (hk cl C ex s H) _) (fun cl C ex s H=>PE.wish (X:=ak X N' scope cl C ex s H) (hv cl C ex s H) _) hs pins s σ H Q (I.unwish.wish _) h)
  (fun _ _ ⟨v,H',I',r,q⟩=>⟨v,H',I'.unwish.wish _,r,q⟩) fun e s z=>?_
 obtain⟨a,L,cls,dx,σ',H',fl,S,env0,rest,h1,h2,h3,h4,h5,h6,h7,h8,hE⟩:=z
 exact hE
end
theorem iW{K:Type}[DecidableEq K]:∀ (more kvs:List (K×Value)),((kvs++more).map (·.1)).Nodup→merged kvs more=kvs++more
 | [],kvs,_=>by rw [YS]; rfl
 | kv::r,kvs,h=>by
  have h0:¬ kv.1∈kvs.map (·.1):=by
   rw [Yz,YA] at h
   intro hm
   exact(List.nodup_append.mp h).2.2 _ hm _ Yl rfl
  have e:stored kvs kv.1 kv.2=kvs++[kv]:=by
   unfold stored
   rw [if_neg]
   intro hs
   obtain⟨x,hx,e⟩:=List.any_eq_true.mp hs
   exact h0 (Y7.mpr ⟨x,hx,of_decide_eq_true e⟩)
  show merged (stored kvs kv.1 kv.2) r=_
  rw [e,iW r (kvs++[kv]) (by simpa using h)]
  simp
section
variable{P:Program}{w:World}{A:Around}{E:Value→Shared→Prop}{s:Shared}
theorem oF{Q:Value→Shared→Prop}{d:Addr}{kvs:List (Key×Value)}(hs:(d==sysModules)=false)(hm:s.heap.DictOf (az P w) d kvs)(hsz:kvs.length≤sizeLine)
  (h:∀ h',h'.DictOf (az P w) s.heap.objs.size kvs→(∀ b o,s.heap.get? b=some o→h'.get? b=some o)→Q (.ref s.heap.objs.size) {s with heap:=h'}):wpAny (model P w) A (call (.type "dict") [.ref d]) Q E s:=by
 have hlt:d<s.heap.objs.size:=by obtain⟨o,_,_,ho,_⟩:=hm; exact Yi ho
 refine callType_codes (Q₁:=fun obj s₁=>obj=.ref s.heap.objs.size∧s₁={s with heap:=s.heap.push {cls:=.type "dict",data:=.dict #[]}}) F.kt_called_dict (F.kt_typeCall_dict_1 _) F.entry_dict_init (kt_code_dict_new _ ⟨rfl,rfl⟩) ?_
 rintro obj s₁ ⟨rfl,rfl⟩
 have hnew:(s.heap.push {cls:=.type "dict",data:=.dict #[]}).DictOf (az P w) s.heap.objs.size []:=Heap.DictOf.new s.heap
 have hold:(s.heap.push {cls:=.type "dict",data:=.dict #[]}).DictOf (az P w) d kvs:=hm.push _
 refine⟨hnew.typeIs,F.args_dict_init_2 _ _,?_⟩
 unfold Builtin.«dict.__init__»
 refine Yd ?_
 unfold Builtin.Dict.selfAndRest
 refine Yd (wpAny_notOrdered_dict hnew.typeIs ?_)
 show wpAny _ _ (pure (s.heap.objs.size,[Value.ref d])) _ _ _
 refine Yf ?_
 show wpAny _ _ (Builtin.Dict.updateFrom "dict.__init__" s.heap.objs.size (.ref d) [] .none) _ _ _
 unfold Builtin.Dict.updateFrom
 refine Yd (wpAny_typeOf hold.typeIs ?_)
 rw [if_neg (by decide)]
 refine Yd ?_
 unfold Builtin.Dict.merge
 refine Yd ?_
 unfold Builtin.Dict.readDirectly
 refine Yd (wpAny_isInstance hold.typeIs isSubtype_dict_dict ?_)
 simp only [Bool.not_true,YU,if_false]
 refine Yd (wpAny_specialOf hold.typeIs F.slot_dict_iter.lookup (Yf ?_))
 simp only [beq_self_eq_true,if_true]
 refine Yd (Yf ?_)
 refine wpAny_mergeDict (knd:=az P w) (Xl hlt) hs hnew hold (fun h' hd' _ sb=>?_) (by simpa using hsz)
 have hn:(kvs.map (·.1)).Nodup:=by obtain⟨_,_,_,_,_,_,_,_,hn⟩:=hm; exact hn
 rw [iW kvs [] (by simpa using hn),Xu] at hd'
 show wpAny _ _ (Builtin.Dict.addKeywords s.heap.objs.size []>>=_) _ _ _
 unfold Builtin.Dict.addKeywords
 refine Yd (Yf ?_)
 exact Yf ⟨rfl,h h' hd' fun b o e=>(sb.2 b (Yu (Yi e))).trans (Ye _ e)⟩
end
inductive rCall_dictDI(xs:List V)(H:Hp)(Q:VK):Prop | mk (a kvs) (_:xs=[.ref a]) (_:H a=some (.dK kvs)) (_:∀ d,H d=none→Q (.ref d) (upd H d (.dK kvs)))
theorem oG{X:Cx}:bU X (.type "dict") rCall_dictDI:=by
 intro pins s σ H xs us Q I r h
 obtain⟨a,kvs,rfl,e,q⟩:=h
 obtain⟨u,rfl,rx⟩:=cM r
 cases rx
 obtain⟨hl,hs,vs,kv,hm⟩:=(show aB X.prog X.w H s.heap a (.dK kvs) from I.hok a _ e)
 have hlen:vs.length=kvs.length:=(Paired.length kv).symm
 refine oF hs hm (by rw [hlen]; exact hl) fun h' hd' kp=>?_
 have hfr:H s.heap.objs.size=none:=I.hok.fresh (Yg _)
 refine⟨.ref s.heap.objs.size,_,I.laid (t':=s.toks) kp (Yg _) (show aB X.prog X.w _ h' _ (.dK kvs) from ⟨hl,?_,vs,kv,hd'⟩),rfl,q _ hfr⟩
 have hb:=I.big
 exact beq_false_of_ne (Xl hb)
end L2
namespace L2
open PySem PySem.Spec PyProof.Rows PySem.Builtin.Str
section
variable{X:Cx}
theorem jy:∀ l:List (Str×Tok),ap ((l.map (·.1)).map V.str) (strValues l)
 | []=>.nil
 | (x,t)::r=>.cons ⟨t,rfl⟩ (jy r)
inductive rMt_splitI(x:V)(xs:List V)(H:Hp)(Q:VK):Prop | mk (z y:Str) (_:x=.str z) (_:xs=[.str y]) (_:(y.length==0)=false) (_:z.length<sizeLine) (_:(Txt.split z y).length≤sizeLine) (_:∀ l,H l=none→Q (.ref l) (upd H l (.lst ((Txt.split z y).map V.str))))
theorem uA:MtR X "str.split" rMt_splitI:=by
 intro pins s σ H x xs v us Q I rx rs h
 obtain⟨z,y,rfl,rfl,hy,hz,hn,q⟩:=h
 obtain⟨t,rfl⟩:=rx
 obtain⟨u,rfl,ru⟩:=cM rs
 obtain⟨t2,rfl⟩:=ru
 have fin:∀ (l:List (Str×Tok)) (k:Nat),l.map (·.1)=Txt.split z y→EP X pins σ Q (.ref s.heap.objs.size) {s with heap:=s.heap.push {cls:=.type "list",data:=.seq (strValues l).toArray},toks:=k}:=fun l k e=>by
  have hf:H s.heap.objs.size=none:=I.hok.fresh (Yg _)
  refine⟨.ref s.heap.objs.size,upd H s.heap.objs.size (.lst ((Txt.split z y).map V.str)),I.laid (t':=k) (fun b u e=>Ye _ e) (Yg _) ?_,rfl,q _ hf⟩
  refine⟨by rw [Yh]; exact hn,strValues l,0,?_,Yo _ rfl⟩
  rw [← e]; exact jy l
 cases h1:(decide (z.length<y.length)||decide (strKind z<strKind y))
 ·cases hf:(occurrences z y 0 z.length (z.length+1)).isEmpty
  ·have e:Txt.split z y=partsBetween z (occurrences z y 0 z.length (z.length+1)) y.length:=(if_neg (ne_true_of_eq_false h1)).trans (if_neg (ne_true_of_eq_false hf))
   refine call_meets F.slot_str_split (typeIs_str _ _ _) F.entry_str_split (F.args_str_split_2 _ _) (meets_str_split_sep z y t t2 h1 hy hf (Nat.le_of_lt hz) (by rw [← e]; exact hn)) ?_
   have:=fin (numbered s.toks (partsBetween z (occurrences z y 0 z.length (z.length+1)) y.length)) (s.toks+(partsBetween z (occurrences z y 0 z.length (z.length+1)) y.length).length) ((numbered_texts _ _).trans e.symm)
   rw [← strsFrom_eq] at this
   exact this
  ·exact call_meets F.slot_str_split (typeIs_str _ _ _) F.entry_str_split (F.args_str_split_2 _ _) (meets_str_split_not_found z y t t2 h1 hy hf) (fin [(z,t)] s.toks ((if_neg (ne_true_of_eq_false h1)).trans (if_pos hf)).symm)
 ·exact call_meets F.slot_str_split (typeIs_str _ _ _) F.entry_str_split (F.args_str_split_2 _ _) (meets_str_split_cannot_occur z y t t2 h1) (fin [(z,t)] s.toks (if_pos h1).symm)
end
theorem aG(a b:Str):(a++b).cps.toList=a.cps.toList++b.cps.toList:=by
 show (a.cps++b.cps).toList=_
 simp
theorem vm{c:Nat}:∀ {a b r q:List Nat},c∉a→c∉b→a++c::r=b++c::q→a=b∧r=q
 | [],[],_,_,_,_,e=>⟨rfl,(List.cons.inj e).2⟩
 | [],y::b,_,_,_,hb,e=>absurd (Yr.mpr (.inl (List.cons.inj e).1)) hb
 | x::a,[],_,_,ha,_,e=>absurd (Yr.mpr (.inl (List.cons.inj e).1.symm)) ha
 | x::a,y::b,_,_,ha,hb,e=>by
  obtain⟨e1,e2⟩:=List.cons.inj e
  obtain⟨h1,h2⟩:=vm (fun h=>ha (Yj _ h)) (fun h=>hb (Yj _ h)) e2
  exact⟨by rw [e1,h1],h2⟩
theorem gs{a b:Str}(h:a.cps.toList=b.cps.toList):a=b:=by
 obtain⟨x⟩:=a
 obtain⟨y⟩:=b
 congr 1
 exact Array.toList_inj.mp h
theorem bF(c:Nat)(x y:Str)(r:List Str):(Str.join ⟨#[c]⟩ (x::y::r)).cps.toList=x.cps.toList++c::(Str.join ⟨#[c]⟩ (y::r)).cps.toList:=by
 show (x++(⟨#[c]⟩:Str)++Str.join ⟨#[c]⟩ (y::r)).cps.toList=_
 rw [aG,aG]
 simp
theorem mr(c:Nat):∀ (A B:List Str),A≠[]→B≠[]→(∀ p∈A,c∉p.cps.toList)→(∀ p∈B,c∉p.cps.toList)→Str.join ⟨#[c]⟩ A=Str.join ⟨#[c]⟩ B→A=B
 | [],_,h,_,_,_,_=>absurd rfl h
 | _::_,[],_,h,_,_,_=>absurd rfl h
 | [x],[y],_,_,_,_,e=>by rw [show x=y from e]
 | [x],y::z::r,_,_,hA,_,e=>by
  have e':x.cps.toList=_:=(congrArg (fun s:Str=>s.cps.toList) e).trans (bF c y z r)
  exact absurd (by rw [e']; simp) (hA x Yl)
 | x::z::r,[y],_,_,_,hB,e=>by
  have e':y.cps.toList=_:=(congrArg (fun s:Str=>s.cps.toList) e.symm).trans (bF c x z r)
  exact absurd (by rw [e']; simp) (hB y Yl)
 | x::x2::r,y::y2::q,_,_,hA,hB,e=>by
  have e':=(bF c x x2 r).symm.trans ((congrArg (fun s:Str=>s.cps.toList) e).trans (bF c y y2 q))
  obtain⟨h1,h2⟩:=vm (hA x Yl) (hB y Yl) e'
  rw [gs h1,mr c (x2::r) (y2::q) (by simp) (by simp) (fun p hp=>hA p (Yj _ hp)) (fun p hp=>hB p (Yj _ hp)) (gs h2)]
theorem nq(c:Nat){A:List Str}(hA:A≠[])(hf:∀ p∈A,c∉p.cps.toList):Txt.split (Str.join ⟨#[c]⟩ A) ⟨#[c]⟩=A:=by
 refine mr c _ _ ?_ hA (StrLaws.split_free _ c) hf (StrLaws.join_split _ _)
 unfold Txt.split
 split
 ·simp
 ·split
  ·simp
  ·rw [StrLaws.partsBetween_eq]
   obtain⟨p,r,e⟩:=StrLaws.partsFrom_ne (Str.join ⟨#[c]⟩ A) (Str.length ⟨#[c]⟩) 0 (occurrences (Str.join ⟨#[c]⟩ A) ⟨#[c]⟩ 0 (Str.join ⟨#[c]⟩ A).length ((Str.join ⟨#[c]⟩ A).length+1))
   rw [e]; simp
end L2
namespace L2
open PySem PySem.Spec PyProof.Rows
section
variable{P:Program}{w:World}{A:Around}{E:Value→Shared→Prop}{s:Shared}{It1 It2:Nat→Heap→Prop}{z TI TO i1 i2 l1 l2:Addr}{xs ys:Array Value}{k:Nat}{x y a b:Value}
theorem vH(hi:∀ k h,It1 k h→i1<h.objs.size)(hi':∀ k h,It2 k h→i2<h.objs.size){Q:Option Value→Shared→Prop}(D:ZipApart z TI TO i1 i2 l1 l2)(F1:rG P w i1 l1 xs It1)(F2:rG P w i2 l2 ys It2)
  (hz:ZAt s.heap z TI TO .none false) (hTI:IsPair s.heap TI (.ref i1) (.ref i2)) (hTO:IsPair s.heap TO a b) (h1:It1 k s.heap) (h2:It2 k s.heap) (hx:xs[k]? = some x) (hy:ys[k]? = some y)
  (hQ:∀ h',ZAt h' z TI TO (rawInt (s.heap.objs.size:Int)) false→IsPair h' TI (.ref i1) (.ref i2)→(∃ a b,IsPair h' TO a b)→It1 (k+1) h'→It2 (k+1) h'→IsPair h' s.heap.objs.size x y→(∀ c o,c≠z→c≠TO→c≠i1→c≠i2→s.heap.get? c=some o→h'.get? c=some o)→Q (some (.ref s.heap.objs.size)) {s with heap:=h'}) :
  wpAny (model P w) A (pyNext (.ref z)) Q E s:=by
 have hT:s.TypeIs (.ref z) "zip":=⟨_,hz,rfl⟩
 have hzl:=Yi hz
 have hTOl:=Yi hTO
 have hi1l:=hi _ _ h1
 have hi2l:=hi' _ _ h2
 unfold pyNext
 refine Yd (wpAny_attempt (wpAny_callSpecial?_slot (name:=Str.ofString "__next__") hT F.slot_zip_next (wpAny_call_entry F.slot_zip_next hT F.entry_zip_next ?_ (F.args_zip_next_1 _))))
 show wpAny _ _ (field (.ref z) 2>>=_) _ _ _
 refine Yd (wpAny_field hz rfl (x:=.bool false) rfl ?_)
 show wpAny _ _ (field (.ref z) 3>>=_) _ _ _
 refine Yd (wpAny_field hz rfl (x:=.ref TI) rfl (Yd (wpAny_seqItems hTI rfl ?_)))
 show wpAny _ _ (Builtin.SmallTypes.ownedTupleIsFree (.ref z)>>=_) _ _ _
 refine Yd ?_
 unfold Builtin.SmallTypes.ownedTupleIsFree
 refine Yd (wpAny_field hz rfl (x:=.none) rfl (Yf ?_))
 simp only [if_true]
 refine Yd (wpAny_rule ?_)
 refine Yd (wpAny_field hz rfl (x:=.ref TO) rfl ?_)
 refine Yd (wpAny_setField_rec hz (by simp) fun h₁ hz₁ hs₁=>?_)
 replace hz₁:ZAt h₁ z TI TO .ellipsis false:=hz₁
 refine Yd ?_
 simp only [List.zipIdx_cons,List.zipIdx_nil,List.forIn_cons,List.forIn_nil]
 have kp1:∀ c o,c≠z→s.heap.get? c=some o→h₁.get? c=some o:=fun c o hc e=>hs₁.extBut c o hc e
 have a1:It1 k h₁:=F1.keep _ _ _ h1 fun b hb o e=>kp1 b o (by rcases hb with rfl | rfl; exact D.i1z; exact D.l1z) e
 have b1:It2 k h₁:=F2.keep _ _ _ h2 fun b hb o e=>kp1 b o (by rcases hb with rfl | rfl; exact D.i2z; exact D.l2z) e
 refine Yd (Yd (wpAny_onRaise ?_))
 show wpAny _ _ (Builtin.SmallTypes.nextOf (.ref i1)>>=_) _ _ _
 refine Yd (F1.item _ {s with heap:=h₁} k x _ _ a1 hx fun h₂ a2 hs₂=>Yf ?_)
 have hTO₂:IsPair h₂ TO a b:=hs₂.extBut _ _ D.TOi1 (kp1 _ _ D.TOz hTO)
 refine Yd (wpAny_seqItems hTO₂ rfl ?_)
 refine Yd (wpAny_updateSeq_pair hTO₂ fun h₃ hTO₃ hs₃=>?_)
 replace hTO₃:IsPair h₃ TO x b:=hTO₃
 refine Yd (wpAny_letGo (Yf ?_))
 have b3:It2 k h₃:=F2.keep _ _ _ b1 fun c hc o e=>hs₃.extBut c o (by rcases hc with rfl | rfl; exact D.TOi2.symm; exact D.l2TO) (hs₂.extBut c o (by rcases hc with rfl | rfl; exact D.i12.symm; exact D.l2i1) e)
 have a3:It1 (k+1) h₃:=F1.keep _ _ _ a2 fun c hc o e=>hs₃.extBut c o (by rcases hc with rfl | rfl; exact D.TOi1.symm; exact D.l1TO) e
 refine Yd (Yd (wpAny_onRaise ?_))
 show wpAny _ _ (Builtin.SmallTypes.nextOf (.ref i2)>>=_) _ _ _
 refine Yd (F2.item _ {s with heap:=h₃} k y _ _ b3 hy fun h₄ b4 hs₄=>Yf ?_)
 have hTO₄:IsPair h₄ TO x b:=hs₄.extBut _ _ D.TOi2 hTO₃
 refine Yd (wpAny_seqItems hTO₄ rfl ?_)
 refine Yd (wpAny_updateSeq_pair hTO₄ fun h₅ hTO₅ hs₅=>?_)
 replace hTO₅:IsPair h₅ TO x y:=hTO₅
 refine Yd (wpAny_letGo (Yf (Yf ?_)))
 refine Yd (wpAny_seqItems hTO₅ rfl ?_)
 refine Yd (wpAny_newTuple ?_)
 have hsz:h₅.objs.size=s.heap.objs.size:=by rw [hs₅.1,hs₄.1,hs₃.1,hs₂.1,hs₁.1]
 have hz₅:ZAt h₅ z TI TO .ellipsis false:=hs₅.extBut _ _ D.TOz.symm (hs₄.extBut _ _ D.i2z.symm (hs₃.extBut _ _ D.TOz.symm (hs₂.extBut _ _ D.i1z.symm hz₁)))
 have hk₅:∀ c o,c≠z→c≠TO→c≠i1→c≠i2→s.heap.get? c=some o→h₅.get? c=some o:=fun c o c1 c2 c3 c4 e=>
  hs₅.extBut _ _ c2 (hs₄.extBut _ _ c4 (hs₃.extBut _ _ c2 (hs₂.extBut _ _ c3 (kp1 _ _ c1 e))))
 have a5:It1 (k+1) h₅:=F1.keep _ _ _ a3 fun c hc o e=>hs₅.extBut c o (by rcases hc with rfl | rfl; exact D.TOi1.symm; exact D.l1TO) (hs₄.extBut c o (by rcases hc with rfl | rfl; exact D.i12; exact D.l1i2) e)
 have b5:It2 (k+1) h₅:=F2.keep _ _ _ b4 fun c hc o e=>hs₅.extBut c o (by rcases hc with rfl | rfl; exact D.TOi2.symm; exact D.l2TO) e
 show wpAny _ _ (Builtin.SmallTypes.ownedTupleHandOut (.ref z) (.ref h₅.objs.size)>>=_) _ _ _
 refine Yd ?_
 unfold Builtin.SmallTypes.ownedTupleHandOut
 have hz₆:ZAt (h₅.push {cls:=.type "tuple",data:=.seq #[x,y]}) z TI TO .ellipsis false:=Ye _ hz₅
 refine Yd (wpAny_setField_rec hz₆ (by simp) fun h₇ hz₇ hs₇=>?_)
 replace hz₇:ZAt h₇ z TI TO (rawInt h₅.objs.size) false:=hz₇
 refine wpAny_setField_rec hz₇ (by simp) fun h₈ hz₈ hs₈=>?_
 replace hz₈:ZAt h₈ z TI TO (rawInt h₅.objs.size) false:=hz₈
 have up:∀ c o,c≠z→h₅.get? c=some o→h₈.get? c=some o:=fun c o c1 e=>hs₈.extBut _ _ c1 (hs₇.extBut _ _ c1 (Ye _ e))
 have hT₈:IsPair h₈ h₅.objs.size x y:=hs₈.extBut _ _ (by rw [hsz]; exact Xl hzl) (hs₇.extBut _ _ (by rw [hsz]; exact Xl hzl) (Yo _ rfl))
 rw [hsz] at hz₈ hT₈
 refine Yf ⟨_,rfl,?_⟩
 show wpAny _ _ (pure (some (Value.ref h₅.objs.size))) _ _ _
 rw [hsz]
 refine Yf (hQ h₈ hz₈ (up _ _ D.TIz (hk₅ _ _ D.TIz D.TITO D.TIi1 D.TIi2 hTI)) ⟨_,_,up _ _ D.TOz hTO₅⟩ (F1.keep _ _ _ a5 fun c hc o e=>up c o (by rcases hc with rfl | rfl; exact D.i1z; exact D.l1z) e) (F2.keep _ _ _ b5 fun c hc o e=>up c o (by rcases hc with rfl | rfl; exact D.i2z; exact D.l2z) e) hT₈ fun c o c1 c2 c3 c4 e=>up c o c1 (hk₅ c o c1 c2 c3 c4 e))
end
section
variable{X:Cx}{elts:List Expr}{k:Nat}{tpos:Pos}
end
section
variable{X:Cx}{pins:List (Addr×Obj)}{σ:St}{H:Hp}{s:Shared}
theorem qm{M:Model}{A:Around}{E:Value→Shared→Prop}{i:Nat}{x:Str}{v:V}{u:Value}{Q:Unit→Shared→Prop}(I:Inv X pins σ H s)(hN:X.N.Nodup)(hi:X.N[i]? = some x)(hk:X.env.scope.names.lookup x=some .local)(r:aq v u)
  (h:∀ s',Inv X pins (σ.set i (some v)) H s'→0<s'.toks→Q () s'):wpAny M A (storeName X.env x u) Q E s:=by
 obtain⟨m,hn,hl⟩:=id I.loc
 have hcls:(X.env.scope.kind==.class||(X.env.scope.kind==.module&&X.env.locals != X.env.globals))=false:=by rw [I.ok.kind]; rfl
 have hiσ:i<σ.length:=by rw [I.len]; exact(Yv.mp hi).1
 have cne:=I.cne
 have tracked:∀ {a:Addr} {h':Heap},(∃ o,s.heap.get? a=some o∧H a=none)→YX a s.heap h'→HOk X.prog X.w H h':=fun {a h'} ha hs b ob e=>by
  obtain⟨_,_,hfree⟩:=ha
  refine(I.hok b ob e).stay (fun c w' hc q=>(hs.2 c ?_).trans q) (fun _ q=>q) fun _ _ q=>q
  rintro rfl
  rcases hc with rfl | hc
  ·rw [hfree] at e; cases e
  ·rw [hfree] at hc; cases hc
 refine wpAny_storeName_local hk hn (fun h' hn' hs=>?_) hcls
 obtain⟨oL,_,_,hoL,_⟩:=id hn
 refine h _ ⟨I.ok,I.os,I.bare,⟨fun b o e n hb hx=>?_,fun b o e n hb hx=>?_,I.base.free,fun b o e hx=>?_,I.base.tups,I.base.frzs,I.base.tbls⟩,⟨_,hn',fun j y v' e1 e2 e3=>?_⟩,fun y c e=>?_,I.free,I.freeC,fun p hp=>?_,tracked ⟨oL,hoL,I.free⟩ hs,by simpa using I.len⟩ (Nat.succ_pos _)
 ·exact(hs.2 b (Yu (YC (Yi e) I.ok.above))).trans (I.base.keep b o e n hb hx)
 ·obtain⟨sl,e1⟩:=I.base.slot b o e n hb hx
  exact⟨sl,(hs.2 b (Yu (YC (Yi e) I.ok.above))).trans e1⟩
 ·obtain⟨o',e1⟩:=I.base.there b o e hx
  exact⟨o',(hs.2 b (Yu (YC (Yi e) I.ok.above))).trans e1⟩
 ·by_cases hj:j=i
  ·subst hj
   rw [hi] at e1; cases e1
   rw [List.getElem?_set_self hiσ] at e2
   cases e2
   exact⟨u,r,.inl ⟨hk,by simp⟩⟩
  ·rw [List.getElem?_set_ne (Ne.symm hj)] at e2
   obtain⟨u',r',q⟩:=hl j y v' e1 e2 e3
   refine⟨u',r',?_⟩
   rcases q with ⟨k,e⟩ | ⟨k,c,e,z⟩
   ·refine .inl ⟨k,?_⟩
    have : y≠x:=fun e=>hj (fX hN e1 (e▸hi))
    simp [this,e]
   ·exact .inr ⟨k,c,e,z.sameBut hs (cne y c e)⟩
 ·obtain⟨w',z⟩:=I.cell y c e
  exact⟨w',z.sameBut hs (cne y c e)⟩
 ·obtain⟨e,n,ne,nf,d⟩:=I.pin p hp
  exact⟨(hs.2 p.1 ne).trans e,n,ne,nf,d⟩
end
def PST(X:Cx)(st:Stmt)(t:TS):Prop:=
 ∀ (pins:List (Addr×Obj)) (s:Shared) (σ:St) (H:Hp) (D:dJ),0<s.toks→Inv X pins σ H s→t D σ H→wpAny (model X.prog X.w) X.A (exec st X.env) (SP X pins D) X.xe s
def AC(X:Cx)(st:List Stmt)(t:TS):Prop:=
 ∀ (pins:List (Addr×Obj)) (s:Shared) (σ:St) (H:Hp) (D:dJ),0<s.toks→Inv X pins σ H s→t D σ H→wpAny (model X.prog X.w) X.A (execs st X.env) (SP X pins D) X.xe s
def PIT(X:Cx)(tg iter:Expr)(wi:TI):Prop:=
 ∀ (pins:List (Addr×Obj)) (s:Shared) (σ:St) (H:Hp) (R:It→Hp→Prop),0<s.toks→Inv X pins σ H s→wi σ H R→
  wpAny (model X.prog X.w) X.A (eval iter X.env) (fun v s1=>wpAny (model X.prog X.w) X.A (pyIter v) (PIE X pins σ tg R) X.xe s1) X.xe s
def PET(X:Cx)(e:Expr)(t:TE):Prop:=
 ∀ (pins:List (Addr×Obj)) (s:Shared) (σ:St) (H:Hp) (Q:VK),0<s.toks→Inv X pins σ H s→t σ H Q→wpAny (model X.prog X.w) X.A (eval e X.env) (fun u s'=>EP X pins σ Q u s'∧0<s'.toks) X.xe s
section
variable{X:Cx}{tg:Expr}
theorem vW{iter:Expr}{body:List Stmt}{wi:TI}{g:TG}{tb:TS}{pos:Pos}(hp:PassesOwn (model X.prog X.w) X.A X.env X.xe)(hc:X.calm=true)(hi:PIT X tg iter wi)(hg:PG X tg g)(hb:PSs X body tb)
  (hs:∀ x,foldedSetIterable iter X.env x=pure x:=by intro _; rfl):PST X (.For tg iter body [] pos) (zP wi g tb):=by
 intro pins s σ H D ht I h
 refine wpAny_For (thn (hi pins s σ H _ ht I h) fun v s1 h1=>thn h1 fun itv s2 h2=>?_) hs
 obtain⟨it,fp,tn,J,H2,e,I2,T,st2,f2,W,⟨m0,w0⟩,turn⟩:=h2
 subst e
 have stat:∀ {H':Hp},(∀ b∈fp,H' b=none)→∀ b∈fp,dy X pins H' b:=fun hn b hb=>⟨hn b hb,(f2 b hb).2⟩
 refine codeAny_forLoop_any (fun n s'=>∃ i σ' H',Inv X pins σ' H' s'∧tn i s'.heap∧(∀ b∈fp,H' b=none)∧W i n σ' H') ?_ m0 ⟨0,σ,H2,I2,st2,fun b hb=>(f2 b hb).1,w0⟩
 rintro n s3 ⟨i,σ3,H3,I3,st3,fr3,w3⟩
 rcases turn i n σ3 H3 w3 with ⟨stop,qn⟩ | ⟨go,N,hN,step⟩
 ·refine wpAny_passesOwn hp (thn (T.done X rfl rfl rfl hc i pins s3 σ3 H3 X.xe I3 (stat fr3) st3 stop) fun r s4 ⟨hr,I4⟩=>?_)
  subst hr
  exact wpAny_execs_nil ⟨σ3,H3,I4,qn⟩
 ·refine wpAny_passesOwn hp (thn (T.item X rfl rfl rfl hc i pins s3 σ3 H3 X.xe I3 (stat fr3) st3 go) fun r s4 ⟨u,hr,h4⟩=>?_)
  subst hr
  refine wpAny_passesOwn hp (thn h4 fun _ s5 ⟨x,H5,I5,r5,y5,st5,fr5⟩=>?_)
  have I5':=I5.pinned (stat fr5) (T.obj _ _ st5)
  refine wpAny_passesOwn hp (thn (hg _ s5 σ3 H5 x u _ I5' r5 (step x H5 y5)) fun _ s6 ⟨σ6,H6,I6,q6⟩=>?_)
  refine wpAny_passesOwn hp (thn (hb _ s6 σ6 H6 _ I6 q6) fun f s7 q7=>?_)
  have again:∀ {σ7:St} {H7:Hp},Inv X (pins++bz fp s5.heap) σ7 H7 s7→N σ7 H7→∃ m,m<n∧∃ i σ' H',Inv X pins σ' H' s7∧tn i s7.heap∧(∀ b∈fp,H' b=none)∧W i m σ' H':=fun {σ7 H7} I7 n7=>by
   obtain⟨m',hm,w7⟩:=hN σ7 H7 n7
   refine⟨m',hm,i+1,σ7,H7,I7.unpinned,T.keep _ _ _ st5 fun b hb o e=>(I7.pin (b,o) (Yk _ (Yk _ (aH hb e)))).1,fun b hb=>?_,w7⟩
   obtain⟨o,e,d⟩:=T.obj _ _ st5 b hb
   exact(I7.pin (b,o) (Yk _ (Yk _ (aH hb e)))).2.1
  cases f with
  | next=>obtain⟨σ7,H7,I7,n7⟩:=q7; exact again I7 n7
  | cont=>obtain⟨σ7,H7,I7,n7⟩:=q7; exact again I7 n7
  | brk=>obtain⟨σ7,H7,I7,q7⟩:=q7; exact⟨σ7,H7,I7.unpinned,q7⟩
  | ret v=>obtain⟨x7,σ7,H7,I7,r7,q7⟩:=q7; exact⟨x7,σ7,H7,I7.unpinned,r7,q7⟩
end
end L2
namespace L2
open PySem PySem.Spec PyProof.Rows PySem.Builtin.Str
section
variable{P:Program}{w:World}{A:Around}{E:Value→Shared→Prop}{s:Shared}
theorem sN{x y z:Str}{t u v:Tok}{Q:Value→Shared→Prop}(hu:u≠0)(hv:v≠0)(huv:u≠v)(hyz:(y==z)=false)(hb:x.length+(x.length+1)*z.length≤16777216)
  (hq:∀ t' k,s.toks≤k→Q (.str (Txt.replace x y z) t') {s with toks:=k}):wpAny (model P w) A (call (.builtin "str.replace") [.str x t,.str y u,.str z v]) Q E s:=by
 have occ:=StrLaws.occ_length_le x y 0 x.length (x.length+1)
 have hl:tooLong (x.length+(occurrences x y 0 x.length (x.length+1)).length*z.length)=false:=by
  have h2:=Nat.mul_le_mul_right z.length occ
  have e:(2:Nat) ^ 24=16777216:=by decide
  unfold tooLong sizeLine
  exact decide_eq_false (by omega)
 refine call_gives F.slot_str_replace (typeIs_str _ _ _) F.entry_str_replace (F.args_str_replace_3 _ _ _) (gives_str_replace x y z t u v fun _=>⟨by simp [hu,hv],by simp [huv],hyz,hl⟩) ?_
 unfold Txt.replace at hq
 split
 ·rename_i h
  rw [if_pos h] at hq
  exact hq t s.toks (Yg _)
 ·rename_i h
  rw [if_neg h] at hq
  exact⟨fits_replaced y hb,hq _ _ (Nat.le_succ _)⟩
end
section
variable{X:Cx}
theorem wk{i:Nat}{x:Str}{pos:Pos}(hN:X.N[i]? = some x)(hk:X.env.scope.names.lookup x=some .local)(hd:(x==("__debug__":Str))=false):PET X (.Name x pos) (tVar i):=by
 intro pins s σ H Q ht I h
 obtain⟨v,e,h⟩:=h
 obtain⟨m,hn,hl⟩:=I.loc
 obtain⟨u,r,l⟩:=hl i x v hN e (.inl hk)
 rcases l with ⟨hk',hm⟩ | ⟨hk',c,hc,hcell⟩
 ·exact wpAny_Name (wpAny_loadName_local I.ok.kind hk' hn hm ⟨⟨v,H,I,r,h⟩,ht⟩) hd
 ·have hk2:X.env.kindOf x=some .local:=hk
  rcases hk' with z | z <;> (rw [z] at hk2; cases hk2)
inductive tReplI(a b:Str)(Q:VK)(x:V)(H1:Hp):Prop | mk (z:Str) (_:x=.str z) (_:z.length+(z.length+1)*b.length≤16777216) (_:(a==b)=false) (_:Q (.str (Txt.replace z a b)) H1)
def zL(a b:Str)(to:TE):TE:=fun σ H Q=>to σ H (tReplI a b Q)
theorem gR{o:Expr}{to:TE}{a b:Str}{ja jb:Nat}{pa pb apos cpos:Pos}(ho:PET X o to)
  (hbase:attributeBase o "replace" X.env (eval o X.env)=eval o X.env:=by rfl)
  (hline:(apos.endLine==cpos.line)=true:=by rfl) :
  PET X (.Call (.Attribute o "replace" apos) [.Constant (.str a) ja pa,.Constant (.str b) jb pb] [] cpos) (zL a b to):=by
 intro pins s σ H Q ht I h
 refine wpAny_Call_method_late hbase (by rfl) hline rfl (thn (ho pins s σ H _ ht I h) fun v s1 ⟨⟨x,H1,I1,r1,z,ez,hb,hab,q1⟩,ht1⟩=>?_)
 subst ez
 obtain⟨t,rfl⟩:=r1
 refine⟨"str","str.replace",F.plainAttrs_str,F.slot_str_replace,F.type_str_replace,typeIs_str _ _ _,(fun _ e=>nomatch e),?_⟩
 have hst:starEach [.Constant (.str a) ja pa,.Constant (.str b) jb pb] X.env=[(false,eval (.Constant (.str a) ja pa) X.env),(false,eval (.Constant (.str b) jb pb) X.env)]:=by rfl
 rw [hst]
 refine Calls.callWith_builtin (by rfl) (Calls.evalArgs_plain ?_)
 show wpAny _ _ (spliced [(false,eval (.Constant (.str a) ja pa) X.env),(false,eval (.Constant (.str b) jb pb) X.env)]) _ _ _
 refine Calls.spliced_cons (wpAny_Constant_str (Calls.spliced_cons (wpAny_Constant_str (Calls.spliced_nil ?_))))
 refine sN (s:={s1 with toks:=s1.toks+1+1}) (Nat.pos_iff_ne_zero.mp ht1) (Nat.succ_ne_zero _) (Yu (Y8 _)) hab hb fun t' k hk=>⟨⟨.str (Txt.replace z a b),H1,I1.tok k,⟨t',rfl⟩,q1⟩,?_⟩
 exact YC (Nat.succ_pos _) hk
inductive iSplitI(K:XC)(c:Str)(R:It→Hp→Prop)(x:V)(H1:Hp):Prop | mk (z:Str) (_:x=.str z) (_:(c.length==0)=false) (_:z.length<sizeLine) (_:(Txt.split z c).length≤sizeLine) (_:∀ l,H1 l=none→R (Itl K l) (upd H1 l (.lst ((Txt.split z c).map V.str))))
def zi(K:XC)(c:Str)(to:TE):TI:=fun σ H R=>to σ H (iSplitI K c R)
theorem sX{i:Nat}{x:Str}{e:Expr}{te:TE}{pos pos':Pos}{rest:List Stmt}{t:TS}(hN:X.N.Nodup)(hi:X.N[i]? = some x)(hk:X.env.scope.names.lookup x=some .local)(he:PE X e te)(hr:AC X rest t)(hs:swapsWith e (some (.Name x pos')) pos.line X.env=pure false:=by rfl):
  PSs X (.Assign [.Name x pos'] e pos::rest) (ql (nj te (cG i)) t):=by
 intro pins s σ H D I h
 refine wpAny_execs_cons ?_
 refine wpAny_Assign_Name (thn (he pins s σ H _ I h) fun v s1 ⟨y,H1,I1,r1,q1⟩=>?_) hs
 exact qm I1 hN hi hk r1 fun s2 I2 ht2=>hr pins s2 _ H1 D ht2 I2 q1
theorem qv{st:Stmt}{rest:List Stmt}{t u:TS}(h1:PST X st t)(h2:PSs X rest u):AC X (st::rest) (ql t u):=by
 intro pins s σ H D ht I h
 refine wpAny_execs_cons (thn (h1 pins s σ H {D with nx:=u D} ht I h) fun f s1 q=>?_)
 cases f with
 | next=>
  obtain⟨σ',H',I',q⟩:=q
  exact h2 pins s1 σ' H' D I' q
 | ret v=>exact q
 | brk=>exact q
 | cont=>exact q
theorem qz{tg o:Expr}{to:TE}{c:Str}{jc:Nat}{pc apos cpos:Pos}(ho:PET X o to)
  (hbase:attributeBase o "split" X.env (eval o X.env)=eval o X.env:=by rfl) (hline:(apos.endLine==cpos.line)=true:=by rfl) :
  PIT X tg (.Call (.Attribute o "split" apos) [.Constant (.str c) jc pc] [] cpos) (zi X.K c to):=by
 intro pins s σ H R ht I h
 refine wpAny_Call_method_late hbase (by rfl) hline rfl (thn (ho pins s σ H _ ht I h) fun v s1 ⟨⟨x,H1,I1,r1,z,ez,hc,hz,hn,q1⟩,ht1⟩=>?_)
 subst ez
 obtain⟨t,rfl⟩:=r1
 refine⟨"str","str.split",F.plainAttrs_str,F.slot_str_split,F.type_str_split,typeIs_str _ _ _,(fun _ e=>nomatch e),?_⟩
 have hst:starEach [.Constant (.str c) jc pc] X.env=[(false,eval (.Constant (.str c) jc pc) X.env)]:=by rfl
 rw [hst]
 refine Calls.callWith_builtin (by rfl) (Calls.evalArgs_plain ?_)
 show wpAny _ _ (spliced [(false,eval (.Constant (.str c) jc pc) X.env)]) _ _ _
 refine Calls.spliced_cons (wpAny_Constant_str (Calls.spliced_nil ?_))
 refine thn (uA (X:=X) pins {s1 with toks:=s1.toks+1} σ H1 (.str z) [.str c] (.str z t) [.str c s1.toks] (fun x H2=>∃ a,x=.ref a∧(∃ xs,SqL X.K H2 a xs)∧R (Itl X.K a) H2) (I1.tok _) ⟨t,rfl⟩ (.cons ⟨_,rfl⟩ .nil) ⟨z,c,rfl,rfl,hc,hz,hn,fun l hl=>⟨l,rfl,⟨_,SqL.of aa⟩,q1 l hl⟩⟩) fun v s2 ⟨x,H2,I2,r2,q2⟩=>?_
 obtain⟨a,e,⟨xs,hq⟩,q⟩:=q2
 subst e
 cases r2
 obtain⟨its,rv,p,hz'⟩:=I2.list hq
 refine wpAny_pyIter_list p.isList ?_
 refine⟨s2.heap.objs.size,[s2.heap.objs.size],_,_,H2,rfl,I2.kept (t':=s2.toks) fun b o e=>Ye _ e,jv a _,⟨_,Yo _ rfl,rfl,rfl⟩,fun b hb=>?_,q⟩
 have e:b=s2.heap.objs.size:=by simpa using hb
 subst e
 exact I2.fpOk (Yg _) (I2.hok.fresh (Yg _))
end
end L2
set_option maxHeartbeats 4000000
namespace L2
open PySem PySem.Spec PyProof.Rows
theorem rH{prog:Program}{w:World}{A:Around}(hh:A.handled=none)(it l:Addr)(hne:l≠it)(items:Array Value):
  Draws prog w A it [it,l] items.size (fun i v=>items[i]? = some v) (fun i h=>h.IsTupleIter it l i∧h.IsTuple l items) where
 live:=fun _ _ st=>let ⟨o,ho,_⟩:=st.1; ⟨o,ho⟩
 frame:=fun i h h' st hk=>(dG (P:=prog) (w:=w) it l items hne).keep h h' i st fun b hb o e=>hk b (by simpa using hb) o e
 item:=fun i s Q E hi st hQ=>by
  refine(dG (P:=prog) (w:=w) it l items hne).item _ s i items[i] _ _ st (by simp [hi]) fun h' hit' hs'=>?_
  exact hQ _ h' s.toks (by simp [hi]) hit' hs'
 done:=fun s Q E st hE=>(dG (P:=prog) (w:=w) it l items hne).fin _ s _ _ _ hh st (by simp) hE
theorem lm{prog:Program}{w:World}{A:Around}(hh:A.handled=none)(it l:Addr)(hne:l≠it)(items:Array Value)(n:Nat)(hn:items[n]? = none):
  Draws prog w A it [it,l] n (fun _ _=>False) (fun i h=>i=n∧h.IsTupleIter it l i∧h.IsTuple l items) where
 live:=fun _ _ st=>let ⟨o,ho,_⟩:=st.2.1; ⟨o,ho⟩
 frame:=fun i h h' st hk=>⟨st.1,(dG (P:=prog) (w:=w) it l items hne).keep h h' i st.2 fun b hb o e=>hk b (by simpa using hb) o e⟩
 item:=fun i s Q E hi st hQ=>absurd st.1 (Yu hi)
 done:=fun s Q E st hE=>(dG (P:=prog) (w:=w) it l items hne).fin _ s _ _ _ hh st.2 hn hE
theorem jn(l:Addr)(its:Array Value)(n:Nat)(dc:Option Addr)(sl:Array (Option Value)):
  Meets (Builtin.«enumerate.__new__» ⟨[.type "enumerate",.ref l],[]⟩) (fun _ R s=>s.heap.get? l=some {cls:=.type "tuple",dict:=dc,data:=.seq its n,slots:=sl}∧
   R (.ok (.ret (.ref (s.heap.push {cls:=.type "tuple_iterator",data:=.fields #[.ref l,.int 0 0]}).objs.size)))
    {s with heap:=(s.heap.push {cls:=.type "tuple_iterator",data:=.fields #[.ref l,.int 0 0]}).push {cls:=.type "enumerate",data:=.fields #[.none,.bool false,.ref s.heap.objs.size,rawInt 0,.none,.none]}}):=
 .of_wp fun prog w A R s h=>by
  obtain⟨hp,g,d,tk,os⟩:=s
  obtain⟨hl,h⟩:=h
  have sub:=sub_enumerate
  have ht:Heap.IsTuple (Shared.heap ⟨hp,g,d,tk,os⟩) l its:=⟨_,hl,rfl,n,rfl⟩
  wp_walk using AutoSeq1.wpAny_loadPart' hl
  refine wpAny_stack_any fun st=>Yf ?_
  split
  ·rename_i c _ _ _ _ _
   cases (c==Value.type "enumerate") <;> (wp_walk using AutoSeq1.wpAny_loadPart' hl,wpAny_pyIter_tuple ht; exact⟨_,rfl,h⟩)
  ·wp_walk using AutoSeq1.wpAny_loadPart' hl,wpAny_pyIter_tuple ht
   exact⟨_,rfl,h⟩
theorem fC{prog:Program}{w:World}{A:Around}{E:Value→Shared→Prop}{s:Shared}{l:Addr}{its:Array Value}{Q:Value→Shared→Prop}(ht:s.heap.IsTuple l its)
  (h:∀ h',IsEnum h' (s.heap.objs.size+1) s.heap.objs.size 0 .none→h'.IsTupleIter s.heap.objs.size l 0→h'.objs.size=s.heap.objs.size+2→
   (∀ b o,s.heap.get? b=some o→h'.get? b=some o)→Q (.ref (s.heap.objs.size+1)) {s with heap:=h'}) :
  wpAny (model prog w) A (call (.type "enumerate") [.ref l]) Q E s:=by
 obtain⟨⟨c,dc,dt,sl⟩,hl,hc,n,hd⟩:=ht
 replace hc:c=.type "tuple":=hc
 replace hd:dt=.seq its n:=hd
 subst hc hd
 refine callType_new F.called_enumerate (by decide) (F.typeCall_enumerate_1 _) (F.newCall_enumerate_1 _) (fun obj=>F.args_object_init_2 obj _) F.entry_enumerate_new (jn l its n dc sl) ⟨hl,?_⟩
 have z:=YO s.heap {cls:=.type "tuple_iterator",data:=.fields #[.ref l,.int 0 0]}
 have he:=Yo (s.heap.push {cls:=.type "tuple_iterator",data:=.fields #[.ref l,.int 0 0]}) (o:={cls:=.type "enumerate",data:=.fields #[.none,.bool false,.ref s.heap.objs.size,rawInt 0,.none,.none]}) rfl
 show _∧_
 rw [z] at he ⊢
 exact⟨⟨_,he,rfl⟩,h _ he ⟨_,Ye _ (Yo _ rfl),rfl,rfl⟩ (by rw [YO,z]) fun b o x=>Ye _ (Ye _ x)⟩
def vF(K:XC)(a:Addr):It:=
 ⟨fun i H=>∃ xs x,SqT K H a xs∧xs[i]? = some x,fun i H v H'=>∃ p y,H p=none∧v=.ref p∧H'=upd H p (.tup [.int i,y])∧∀ xs,SqT K H a xs→xs[i]? = some y,fun i H=>∃ xs,SqT K H a xs∧xs.length≤i⟩
theorem nh{P:Program}{w:World}{K:XC}{elts:List Expr}{k:Nat}{tpos:Pos}(a it e:Addr)(hei:e≠it):hV P w K (.Tuple elts k tpos) (vF K a) [e,it] e (fun i h=>(∃ old,IsEnum h e it i old)∧h.IsTupleIter it a i) where
 mem:=by simp
 obj:=fun i h st b hb=>by
  obtain⟨⟨old,he⟩,o,e1,_,d1⟩:=st
  rcases Yr.mp hb with rfl | hb
  ·exact⟨_,he,fun v z=>by cases z⟩
  ·rw [Yp.mp hb]
   exact⟨o,e1,fun v z=>by rw [d1] at z; cases z⟩
 keep:=fun i h h' st k=>by
  obtain⟨⟨old,he⟩,o,e1,r⟩:=st
  exact⟨⟨old,k e (by simp) _ he⟩,o,k it (by simp) o e1,r⟩
 item:=by
  intro X hP hw hK hc i pins s σ H E I hf st hg
  subst hP hw hK
  obtain⟨xs,x,hq,hx⟩:=hg
  obtain⟨its,rv,pl,hz⟩:=I.tuple hq
  obtain⟨u,hu,ru⟩:=rv.get hx
  obtain⟨⟨old,he⟩,hit⟩:=st
  have D:=rH (prog:=X.prog) (w:=X.w) (A:=X.A.in1) (by simpa using I.ok.hd hc) it a (by
   rintro rfl
   obtain⟨_,e1,c1,_⟩:=hit
   obtain⟨_,e2,c2,_⟩:=pl
   rw [e1] at e2; cases e2
   rw [c1] at c2
   exact absurd (Value.type.inj c2) (by decide)) its.toArray
  have hi:i<its.toArray.size:=by simpa using (Yv.mp hu).1
  have hea:e∉[it,a]:=by
   intro z
   rcases Yr.mp z with z | z
   ·exact hei z
   ·rw [Yp.mp z] at he
    obtain⟨_,e2,c2,_⟩:=pl
    rw [he] at e2; cases e2
    exact absurd (Value.type.inj c2) (by decide)
  refine wpAny_pyNext_enum_itemD D he ⟨hit,show s.heap.IsTuple a its.toArray from pl⟩ hi hei hea fun x' h' tk hP ho hs' hT hsz hk=>?_
  obtain rfl:x'=u:=by
   have : its.toArray[i]? = some u:=by simpa using hu
   rw [this] at hP; exact(Option.some.inj hP).symm
  refine⟨_,rfl,?_⟩
  refine wpAny_letOwnedTupleGo_enum (s:={s with heap:=h',toks:=tk+1}) ho fun h2 he2 sb2=>?_
  have k2:∀ b o,b∉[e,it]→s.heap.get? b=some o→h2.get? b=some o:=fun b o nb q=>(sb2.2 b (fun z=>nb (by simp [z]))).trans (hk b o (fun z=>nb (by simp [z])) (fun z=>nb (by simp [z])) q)
  have lo:∀ b∈[e,it],dm X pins H b:=fun b hb=>(hf b hb).loose
  have nF:∀ b∈[e,it],b∉frs X.stack:=fun b hb z=>by
   obtain⟨_,f1,f2,_⟩:=hf b hb
   exact(Yr.mp (I.stkSub b z)).elim f1 f2
  have I2:Inv X pins σ H {s with heap:=h2,toks:=tk+1}:=I.fly (t':=tk+1) lo (fun b o q n _=>k2 b o n q) fun b o q hb=>⟨o.slots,k2 b o (fun z=>nF b z hb) q⟩
  have hn:H s.heap.objs.size=none:=I.hok.fresh (Yg _)
  have hTn:s.heap.objs.size≠e:=Xl (Yi he)
  have hT2:h2.get? s.heap.objs.size=some {cls:=.type "tuple",data:=.seq #[.int i tk,x']}:=(sb2.2 _ hTn).trans hT
  have lT:dm X pins H s.heap.objs.size:=I.loose (Xh (Yg _))
  have hok:aB X.prog X.w (upd H s.heap.objs.size (.tup [.int i,x])) h2 s.heap.objs.size (.tup [.int i,x]):=⟨(by show 2≤sizeLine; decide),[.int i tk,x'],.cons ⟨tk,rfl⟩ (.cons ru .nil),⟨_,hT2,rfl,0,rfl⟩⟩
  refine⟨.ref s.heap.objs.size,upd H s.heap.objs.size (.tup [.int i,x]),I2.trackO lT hok,rfl,⟨_,x,hn,rfl,rfl,fun ys hy=>by rw [I.tuple_inj hy hq]; exact hx⟩,⟨⟨_,by simpa using he2⟩,?_⟩,fun b hb=>?_⟩
  ·obtain⟨o,e1,r⟩:=hs'.1
   exact⟨o,(sb2.2 it (Ne.symm hei)).trans e1,r⟩
  ·have : b≠s.heap.objs.size:=by
    rcases Yr.mp hb with rfl | hb
    ·exact Ne.symm hTn
    ·rw [Yp.mp hb]
     obtain⟨_,e1,_⟩:=hit
     exact Yu (Yi e1)
   rw [ac this]; exact(hf b hb).1
 done:=by
  intro X hP hw hK hc i pins s σ H E I hf st hg
  subst hP hw hK
  obtain⟨xs,hq,hx⟩:=hg
  obtain⟨its,rv,pl,hz⟩:=I.tuple hq
  obtain⟨⟨old,he⟩,hit⟩:=st
  have hl:=rv.length
  have D:=lm (prog:=X.prog) (w:=X.w) (A:=X.A.in1) (by simpa using I.ok.hd hc) it a (by
   rintro rfl
   obtain⟨_,e1,c1,_⟩:=hit
   obtain⟨_,e2,c2,_⟩:=pl
   rw [e1] at e2; cases e2
   rw [c1] at c2
   exact absurd (Value.type.inj c2) (by decide)) its.toArray i (by simp; omega)
  refine wpAny_pyNext_enum_endD D he ⟨rfl,hit,show s.heap.IsTuple a its.toArray from pl⟩ fun h' eb=>⟨rfl,?_⟩
  obtain⟨f0,f1,f2,f3,f4,f5⟩:=hf it (by simp)
  exact I.turned (t':=s.toks) (fun b o hb e=>eb b o hb e) f0 f1 f3 f4 f5
 self:=fun _ _ _ _ _ st h=>by
  obtain⟨⟨old,he⟩,_⟩:=st
  exact wpAny_pyIter_enum he h
section
variable{X:Cx}{elts:List Expr}{k:Nat}{tpos:Pos}
inductive iEnumTI(K:XC)(R:It→Hp→Prop)(vs:List V)(H1:Hp):Prop | mk (a xs) (_:vs=[.ref a]) (_:SqT K H1 a xs) (_:R (vF K a) H1)
def zk(K:XC)(ta:TA):TI:=fun σ H R=>ta σ H (iEnumTI K R)
theorem tD{a:Expr}{ta:TA}{p pos:Pos}(hg:Gl X "enumerate")(hm:X.mg "enumerate"=none)(ha:PA X [a] ta)(hs:starEach [a] X.env=[(false,eval a X.env)]:=by rfl):PI X (.Tuple elts k tpos) (.Call (.Name "enumerate" p) [a] [] pos) (zk X.K ta):=by
 intro pins s σ H R I h
 refine Call_ (gH I hg hm rC (PyProof.Rows.callWith_type1 (thn (ha pos pins s σ H _ I h) fun us s1 ⟨vs,H1,I1,r1,q1⟩=>?_) hs rfl))
 obtain⟨b,xs,e,hq,q⟩:=q1
 subst e
 cases r1 with
 | cons r rr=>
  cases rr
  cases r
  obtain⟨its,rv,pl,hz⟩:=I1.tuple hq
  refine fC (show s1.heap.IsTuple b its.toArray from pl) fun h' hE hI hsz hk=>?_
  refine wpAny_pyIter_enum hE ?_
  refine⟨s1.heap.objs.size+1,[s1.heap.objs.size+1,s1.heap.objs.size],_,_,H1,rfl,I1.kept (t':=s1.toks) hk,nh b s1.heap.objs.size (s1.heap.objs.size+1) (Nat.succ_ne_self _),⟨⟨_,hE⟩,hI⟩,fun c hc=>?_,q⟩
  rcases Yr.mp hc with rfl | hc
  ·exact I1.fpOk (Nat.le_succ _) (I1.hok.fresh (Nat.le_succ _))
  ·rw [Yp.mp hc]
   exact I1.fpOk (Yg _) (I1.hok.fresh (Yg _))
end
end L2
set_option maxHeartbeats 1000000
namespace L2
open PySem PySem.Spec PyProof.Rows
inductive rGetL(K:XC)(x y:V)(H:Hp)(Q:VK):Prop | mk (p xs i v) (_:x=.ref p) (_:y=.int i) (_:0≤i) (_:SqL K H p xs) (_:atI xs i=some v) (_:Q v H)
theorem uX{X:Cx}:AD X (rGetL X.K):=by
 intro pins s σ H x y v u Q I rx ry h
 obtain⟨p,xs,i,z,rfl,rfl,h0,hq,he,q⟩:=h
 cases rx
 obtain⟨t,rfl⟩:=ry
 obtain⟨its,r,pl,hz⟩:=I.list hq
 obtain⟨j,h1,h2,h3,h4,h5⟩:=ii he
 obtain⟨w,ew,rw'⟩:=r.get h2
 have hn:=er
 have hl:=r.length
 have hj:i.toNat=j:=by
  rw [seqIndex_of h0 h5] at h1
  exact Option.some.inj h1
 exact wpAny_getItem_list pl.isList h0 (by omega) (by rw [hj]; simpa using ew) ⟨z,H,I,rw',q⟩
end L2
set_option maxHeartbeats 4000000
namespace L2
open PySem PySem.Spec PyProof.Rows
section
variable{X:Cx}{pins:List (Addr×Obj)}{σ:St}{H:Hp}{s:Shared}
theorem Inv.retell{a:Addr}{o u:HO}(I:Inv X pins σ H s)(e:H a=some o)(nt:∀ xs,o≠.tup xs)(no:∀ y,o≠.own y)(ntb:∀ ps,o≠.tbl ps)(nf:∀ ob v,X.H₀ a≠some (.frz ob v))(ok:aB X.prog X.w (upd H a u) s.heap a u):Inv X pins σ (upd H a u) s:=by
 have nn:∀ b,H b=none→b≠a:=fun b q=>Ne.symm (ae e q)
 have nu:∀ b v,H b=some v→o≠v→b≠a:=fun b v q n z=>by rw [z,e] at q; exact n (Option.some.inj q)
 refine⟨I.ok,I.os,I.bare,⟨I.base.keep,I.base.slot,fun b o q n hx=>?_,I.base.there,fun b xs q=>?_,fun b o xs q=>?_,fun b ps q=>?_⟩,I.loc,I.cell,?_,fun x c hc=>?_,fun p hp=>?_,fun b v q=>?_,I.len⟩
 ·have:=I.base.free b o q n hx
  rw [ac (nn b this)]; exact this
 ·have:=I.base.tups b xs q
  rw [ac (nu b _ this (nt xs))]; exact this
 ·rw [ac (fun z=>nf o xs (by rw [← z]; exact q))]; exact I.base.frzs b o xs q
 ·obtain⟨m,z⟩:=I.base.tbls b ps q
  exact⟨m,by rw [ac (nu b _ z (ntb _))]; exact z⟩
 ·rw [ac (nn _ I.free)]; exact I.free
 ·rw [ac (nn _ (I.freeC x c hc))]; exact I.freeC x c hc
 ·obtain⟨e1,n,r⟩:=I.pin p hp
  exact⟨e1,by rw [ac (nn _ n)]; exact n,r⟩
 ·by_cases hb:b=a
  ·subst hb
   rw [aa] at q; cases q
   exact ok
  ·rw [ac hb] at q
   exact(I.hok b v q).stay (fun _ _ _ z=>z) (fun c z=>by rw [ac (nu c _ z (no _))]; exact z) fun c xs z=>by rw [ac (nu c _ z (nt _))]; exact z
theorem Inv.freeze{a:Addr}{kvs:List (Key×V)}(I:Inv X pins σ H s)(e:H a=some (.dK kvs)):∃ ob,Inv X pins σ (upd H a (.frz ob (.dK kvs))) s∧∀ ob v,X.H₀ a≠some (.frz ob v):=by
 have nf:∀ ob v,X.H₀ a≠some (.frz ob v):=fun ob v z=>by have:=I.base.frzs a ob v z; rw [e] at this; cases this
 have ok:=I.hok a _ e
 obtain⟨z,y,vs,r,ob,es,ep,g,c⟩:=ok
 exact⟨ob,I.retell e (fun _ z=>nomatch z) (fun _ z=>nomatch z) (fun _ z=>nomatch z) nf ⟨g,z,y,vs,r,ob,es,ep,g,c⟩,nf⟩
theorem Inv.thaw{a:Addr}{ob:Obj}{kvs:List (Key×V)}(I:Inv X pins σ H s)(e:H a=some (.frz ob (.dK kvs)))(nf:∀ ob v,X.H₀ a≠some (.frz ob v)):Inv X pins σ (upd H a (.dK kvs)) s:=by
 obtain⟨g,z,y,vs,r⟩:=I.hok a _ e
 exact I.retell e (fun _ z=>nomatch z) (fun _ z=>nomatch z) (fun _ z=>nomatch z) nf ⟨z,y,vs,r⟩
inductive sFrz(t:TS)(D:dJ)(σ:St)(H:Hp):Prop | mk (a kvs) (_:H a=some (.dK kvs)) (_:∀ ob,t {nx:=fun σ' H'=>H' a=some (.frz ob (.dK kvs))∧D.nx σ' (upd H' a (.dK kvs)),rt:=fun _ _=>False} σ (upd H a (.frz ob (.dK kvs))))
theorem yy{st:Stmt}{t:TS}(h:PS X st t):PS X st (sFrz t):=by
 intro pins s σ H D I ⟨a,kvs,e,q⟩
 obtain⟨ob,I1,nf⟩:=I.freeze e
 refine thn (h pins s σ _ _ I1 (q ob)) fun f s' hf=>?_
 cases f with
 | next=>obtain⟨σ',H',I',e',q'⟩:=hf; exact⟨σ',_,I'.thaw e' nf,q'⟩
 | brk=>obtain⟨_,_,_,z⟩:=hf; exact z.elim
 | cont=>obtain⟨_,_,_,z⟩:=hf; exact z.elim
 | ret u=>obtain⟨_,_,_,_,_,z⟩:=hf; exact z.elim
def Itd(a:Addr)(ob:Obj):It:=
 ⟨fun i H=>∃ kvs,H a=some (.frz ob (.dK kvs))∧i<kvs.length,fun i H x H'=>H'=H∧∀ kvs,H a=some (.frz ob (.dK kvs))→∃ kv,kvs[i]? = some kv∧x=kV kv.1,fun i H=>∃ kvs,H a=some (.frz ob (.dK kvs))∧kvs.length=i⟩
theorem pL{a:Addr}{ob:Obj}{kvs:List (Key×V)}{es:Array DictEntry}{ep:Nat}(I:Inv X pins σ H s)(e:H a=some (.frz ob (.dK kvs)))(hd:ob.data=.dict es ep):Raw s.heap a es ep∧es.size=kvs.length∧∀ i (h:i<es.size),∃ kv,kvs[i]? = some kv∧aq (kV kv.1) es[i].key:=by
 obtain⟨g,z,y,vs,r,o,es',ep',g',ex,d,_,pr,_⟩:=I.hok a _ e
 rw [g] at g'; cases g'
 rw [hd] at d; cases d
 have l1:=pr.length
 have l2:=r.length
 rw [Xm] at l1
 refine⟨⟨ob,g,ex,hd⟩,by omega,fun i h=>?_⟩
 have hv:i<vs.length:=by omega
 have hk:i<kvs.length:=by omega
 obtain⟨p1,_⟩:=pr.get? (i:=i) (e:=es[i]) (k:=vs[i].1) (v:=vs[i].2) (by simp [h]) (by simp [hv])
 refine⟨kvs[i],by simp [hk],?_⟩
 have e1:kvs[i].1=vs[i].1:=by
  have:=KV.keys r
  have:=congrArg (fun l=>l[i]?) this
  simpa [hk,hv] using this
 rw [e1]
 have p1:gX vs[i].1 es[i].key=true:=p1
 rcases aM p1 with ⟨j,t,q1,q2⟩ | ⟨x,t,q1,q2⟩
 ·rw [q1,q2]; exact⟨t,rfl⟩
 ·rw [q1,q2]; exact⟨t,rfl⟩
theorem qh{P:Program}{w:World}{K:XC}{tg:Expr}(a it:Addr)(ob:Obj){es:Array DictEntry}{ep:Nat}(hd:ob.data=.dict es ep):hV P w K tg (Itd a ob) [it] it (fun i h=>h.IsKeyIter it a i es.size ep) where
 mem:=by simp
 obj:=fun i h st b hb=>by
  have e:b=it:=by simpa using hb
  subst e
  obtain⟨o,e,c,d⟩:=st
  exact⟨o,e,fun v z=>by rw [d] at z; cases z⟩
 keep:=fun i h h' st k=>st.at fun o e=>k it (by simp) o e
 item:=by
  intro X hP hw hK hc i pins s σ H E I hf st hg
  subst hP hw hK
  obtain⟨kvs,hq,hi⟩:=hg
  obtain⟨raw,hz,hr⟩:=pL I hq hd
  obtain⟨f0,f1,f2,f3,f4,f5⟩:=hf it (by simp)
  have hi':i<es.size:=by omega
  refine sS st raw hi' fun h' st' sb=>?_
  have I1:Inv X pins σ H {s with heap:=h'}:=I.turned (t':=s.toks) (fun b o hb e=>(sb.2 b hb).trans e) f0 f1 f3 f4 f5
  obtain⟨kv,e1,e2⟩:=hr i hi'
  refine⟨_,rfl,letGo_keyiter (s':={s with heap:=h'}) st' ⟨kV kv.1,H,I1,e2,⟨rfl,fun kvs' hy=>?_⟩,st',fun b hb=>(hf b hb).1⟩⟩
  rw [hq] at hy; cases hy
  exact⟨kv,e1,rfl⟩
 done:=by
  intro X hP hw hK hc i pins s σ H E I hf st hg
  subst hP hw hK
  obtain⟨kvs,hq,hi⟩:=hg
  obtain⟨raw,hz,hr⟩:=pL I hq hd
  obtain⟨f0,f1,f2,f3,f4,f5⟩:=hf it (by simp)
  have hi':i=es.size:=by omega
  subst hi'
  exact vR (I.ok.hd hc) st raw fun h' eb=>⟨rfl,I.turned (t':=s.toks) (fun b o hb e=>eb b o hb e) f0 f1 f3 f4 f5⟩
 self:=fun _ _ _ _ _ st h=>wpAny_pyIter_keyiter st h
inductive iKeysI(R:It→Hp→Prop)(x:V)(H1:Hp):Prop | mk (a ob kvs) (_:x=.ref a) (_:H1 a=some (.frz ob (.dK kvs))) (_:R (Itd a ob) H1)
def Aq(tl:TE):TI:=fun σ H R=>tl σ H (iKeysI R)
theorem wg{tg l:Expr}{tl:TE}(hl:PE X l tl):PI X tg l (Aq tl):=by
 intro pins s σ H R I h
 refine thn (hl pins s σ H _ I h) fun v s1 ⟨x,H1,I1,r1,q1⟩=>?_
 obtain⟨a,ob,kvs,e,hq,q⟩:=q1
 subst e
 cases r1
 obtain⟨g,z,y,vs,r,o,es,ep,g',ex,d,_⟩:=I1.hok a _ hq
 have : o=ob:=by rw [g] at g'; exact(Option.some.inj g').symm
 subst this
 refine sR y ⟨o,g,ex,d⟩ ?_
 refine⟨s1.heap.objs.size,[s1.heap.objs.size],_,_,H1,rfl,I1.kept (t':=s1.toks) fun b o e=>Ye _ e,qh a _ o d,⟨_,Yo _ rfl,rfl,rfl⟩,fun b hb=>?_,q⟩
 have e:b=s1.heap.objs.size:=by simpa using hb
 subst e
 exact I1.fpOk (Yg _) (I1.hok.fresh (Yg _))
end
section
variable{X:Cx}{n:Nat}{N':List Str}{scope:Scope}{elt cnd tg iter:Expr}{pos:Pos}
theorem PT.wish{e:Expr}{t:TT}(h:PT X.nox e t)(E:Value→Shared→Prop):PT (X.wish E) e t:=PT.nox (X:=X.wish E) h
theorem gQ{wi:TI}{g:au TG}{tc:au TT}{te:au TE}{i:Nat}{x:Str}{pos' spos:Pos}(hN:X.N.Nodup)(hi0:X.N[i]? = some x)(hx:Loc X.env.scope x)
  (hsw:swapsWith (.ListComp elt [⟨tg,iter,[cnd],0⟩] scope pos) (some (.Name x pos')) spos.line X.env=pure true)
  (fr:bY X) (hc:X.calm=true) (S:aE n N' X.nox scope) (hi:PI X.nox tg iter wi)
  (hg:∀ cl C ex s H,PG (ak X.nox N' scope cl C ex s H) tg (g cl C ex s H)) (hcn:∀ cl C ex s H,PT (ak X.nox N' scope cl C ex s H) cnd (tc cl C ex s H)) (he:∀ cl C ex s H,PE (ak X.nox N' scope cl C ex s H) elt (te cl C ex s H))
  (hs:∀ x,foldedSetIterable iter X.env x=pure x:=by intro _; rfl) (hf:X.fn x=true∨X.env.scope.names.lookup x=some .local:=by first | exact .inl rfl | exact .inr rfl | assumption) :
  PS X.nox (.Assign [.Name x pos'] (.ListComp elt [⟨tg,iter,[cnd],0⟩] scope pos) spos) (nj (sf n wi g tc te) (cG i)):=by
 intro pins s σ H D I h
 have S':aE n N' X scope:=⟨S.kind,S.names,S.cell,S.free,S.nd,S.len,S.look⟩
 refine Ym (lJ (X:=X) (E0:=fun _ _ _=>False) hN hi0 hx hsw fr hc S' (hi.wish _) (fun cl C ex s H=>PG.wish (X:=ak X N' scope cl C ex s H) (hg cl C ex s H) _) (fun cl C ex s H=>PT.wish (X:=ak X N' scope cl C ex s H) (hcn cl C ex s H) _) (fun cl C ex s H=>PE.wish (X:=ak X N' scope cl C ex s H) (he cl C ex s H) _) hs hf pins s σ H D (I.unwish.wish _) h)
  (fun f s' z=>?_) fun e s z=>?_
 ·have:=z.unwish
  cases f with
  | next=>obtain⟨σ',H',I,q⟩:=this; exact⟨σ',H',I.wish _,q⟩
  | brk=>obtain⟨σ',H',I,q⟩:=this; exact⟨σ',H',I.wish _,q⟩
  | cont=>obtain⟨σ',H',I,q⟩:=this; exact⟨σ',H',I.wish _,q⟩
  | ret u=>obtain⟨v,σ',H',I,r,q⟩:=this; exact⟨v,σ',H',I.wish _,r,q⟩
 ·obtain⟨a,L,cls,dx,σ',H',fl,S,env0,rest,h1,h2,h3,h4,h5,h6,h7,h8,hE⟩:=z
  exact hE
end
end L2
set_option maxHeartbeats 1000000
namespace L2
open PySem PySem.Spec PyProof.Rows
section
variable{X:Cx}
def kR:Value→Bool
 | .none=>true
 | _=>false
def Thg(K:XC)(H:Hp)(v:V):Prop:=v=.non∨(∃ x,v=.str x)∨∃ a xs,v=.ref a∧SqT K H a xs
theorem mS{K:XC}{H:Hp}:∀ {xs:List V} {us:List Value},ap xs us→(∀ v∈xs,Thg K H v)→us.any kR=xs.any fun v=>decide (v=.non)
 | _,_,.nil,_=>rfl
 | v::xs,u::us,.cons r t,f=>by
  rw [Y9,Y9,mS t fun y hy=>f y (Yj _ hy)]
  congr 1
  rcases f v Yl with rfl | ⟨x,rfl⟩ | ⟨a,ys,rfl,_⟩
  ·cases r; rfl
  ·obtain⟨_,rfl⟩:=r; rfl
  ·cases r; rfl
theorem mj:∀ {xs:List V} {us:List Value} {u:Value},ap xs us→u∈us→∃ v∈xs,aq v u
 | _,_,_,.nil,h=>by cases h
 | _,_,_,.cons r t,h=>by
  rcases Yr.mp h with rfl | h
  ·exact⟨_,Yl,r⟩
  ·obtain⟨v,hv,q⟩:=mj t h
   exact⟨v,Yj _ hv,q⟩
inductive rOp_nonInI(K:XC)(x y:V)(H:Hp)(Q:VK):Prop | mk (p xs) (_:x=.non) (_:y=.ref p) (_:SqL K H p xs) (_:(∀ v∈xs,Thg K H v)) (_:Q (.bl (xs.any fun v=>decide (v=.non))) H)
theorem lO(hu:X.A.units+1<cLine):OpR X (compareOp .In) (rOp_nonInI X.K):=by
 intro pins s σ H x y v u Q I rx ry h
 obtain⟨p,xs,rfl,rfl,hq,ht,q⟩:=h
 cases rx
 cases ry
 obtain⟨its,r,pl,hz⟩:=I.list hq
 refine SeqAt.in_listAt kR pl.isList (fun w hw=>?_) ⟨.bl _,H,I,rfl,?_⟩
 ·obtain⟨v,hv,rv⟩:=mj r (by simpa using hw)
  rcases ht v hv with rfl | ⟨x,rfl⟩ | ⟨a,ys,rfl,hs⟩
  ·cases rv; exact SeqAt.EqAt.same _
  ·obtain⟨t,rfl⟩:=rv; exact SeqAt.EqAt.str_none x t
  ·cases rv
   obtain⟨jts,_,pt,_⟩:=I.tuple hs
   exact SeqAt.EqAt.tuple_none (show s.heap.IsTuple a jts.toArray from pt) hu
 ·rw [show its.toArray.any kR=its.any kR by simp,mS r ht]
  exact q
inductive rOp_neL0I(K:XC)(x y:V)(H:Hp)(Q:VK):Prop | mk (a b:Addr) (xs:List V) (_:x=.ref a) (_:y=.ref b) (_:SqL K H a xs) (_:SqL K H b []) (_:Q (.bl (!xs.isEmpty)) H)
theorem pA(hu:X.A.units<cLine):OpR X (compareOp .NotEq) (rOp_neL0I X.K):=by
 intro pins s σ H x y v u Q I rx ry h
 obtain⟨a,b,xs,rfl,rfl,ha,hb,q⟩:=h
 cases rx
 cases ry
 obtain⟨its,r1,p1,_⟩:=I.list ha
 obtain⟨jts,r2,p2,_⟩:=I.list hb
 cases r2
 cases r1 with
 | nil=>
  refine SeqAt.RcNeAt.lists (e:=fun _=>true) p1.isList p2.isList rfl hu (fun j h1 _=>absurd h1 (by simp)) X.prog X.w X.xe _ ⟨.bl false,H,I.tok _,?_,q⟩
  show Value.bool _=Value.bool false
  congr 1
 | cons r t=>
  exact SeqAt.RcNeAt.lists_lengths p1.isList p2.isList (by simp) hu X.prog X.w X.xe _ ⟨.bl true,H,I.tok _,rfl,q⟩
end
end L2
set_option maxHeartbeats 4000000
namespace L2
open PySem PySem.Spec PyProof.Rows
section
variable{prog:Program}{w:World}{A:Around}{E:Value→Shared→Prop}{h:Heap}{g:Array GenState}{d:Drawn}{t:Nat}{os:OsState}{C N fI:Addr}{bm bs:List Value}{nm q:Str}{hdct:Bool}{sn:List Str}{sub:List Value}{ab:Bool}{col:Option Bool}{dd:Option Addr}{k0 k1 k2 k3 k5:Option Value}{mN:Str→Option Value}{us:List Value}{oI:Obj}
end
end L2
namespace L2
open PySem PySem.Spec PyProof.Rows Builtin Builtin.ObjectAttr
section
variable{prog:Program}{w:World}{A:Around}{s:Shared}{K:XC}{x C:Addr}{ox:Obj}{n:Str}{v:Value}
end
end L2
set_option maxHeartbeats 8000000
namespace L2
open PySem PySem.Spec PyProof.Rows Builtin Builtin.ObjectAttr
section
variable{prog:Program}{w:World}{A:Around}{E:Value→Shared→Prop}{h:Heap}{g:Array GenState}{d:Drawn}{t:Nat}{os:OsState}{a C dx:Addr}{o:Obj}{K:XC}{n:Str}{v:Value}{mA:Str→Option Value}{cd:ClassData}
end
end L2
set_option maxHeartbeats 4000000
namespace L2
open PySem PySem.Spec PyProof.Rows
def del(H:Hp)(a:Addr):Hp:=fun b=>if b=a then none else H b
section
variable{X:Cx}{pins:List (Addr×Obj)}{σ:St}{H:Hp}{s:Shared}{o value:Expr}{ta tv:TE}{f:Str}{pos pos':Pos}
end
section
variable{X:Cx}{o:Expr}{ta:TE}{f:Str}{pos:Pos}
end
section
variable{P:Program}{w:World}{K:XC}{mg:Str→Option Value}{base:Heap}{N:List Str}{name qual:Str}{scope:Scope}{cl:List (Str×Addr)}{f c':Addr}{pm ctv:Value}{A:Around}{outer:List Env}{s:Shared}{H:Hp}{E:XK}{Q:VK}{σ:St}{body:Expr}{te:TE}{k:Nat}
end
end L2
set_option maxHeartbeats 1000000
namespace L2
open PySem PySem.Spec PyProof.Rows
def SqB(b:Bool)(K:XC)(H:Hp)(a:Addr)(xs:List V):Prop:=bif b then SqL K H a xs else SqT K H a xs
def ItB(b:Bool)(i l:Addr)(k:Nat)(h:Heap):Prop:=bif b then h.IsListIter i l k else h.IsTupleIter i l k
def IsB(b:Bool)(h:Heap)(l:Addr)(xs:Array Value):Prop:=bif b then h.IsList l xs else h.IsTuple l xs
theorem ou{P:Program}{w:World}(b:Bool)(i l:Addr)(xs:Array Value)(hne:l≠i):rG P w i l xs fun k h=>ItB b i l k h∧IsB b h l xs:=by
 cases b
 ·exact dG i l xs hne
 ·exact qZ i l xs hne
theorem ItB.obj{b:Bool}{i l:Addr}{k:Nat}{h:Heap}(z:ItB b i l k h):∃ o,h.get? i=some o∧∀ v,o.data≠.cell v:=by
 cases b <;> (obtain⟨o,e,_,d⟩:=z; exact⟨o,e,fun v z=>by rw [d] at z; cases z⟩)
theorem ItB.at{b:Bool}{i l:Addr}{k:Nat}{h h':Heap}(z:ItB b i l k h)(e:∀ o,h.get? i=some o→h'.get? i=some o):ItB b i l k h':=by
 cases b <;> (obtain⟨o,e1,r⟩:=z; exact⟨o,e o e1,r⟩)
theorem Inv.sqB{X:Cx}{pins:List (Addr×Obj)}{σ:St}{H:Hp}{s:Shared}{b:Bool}{a:Addr}{xs:List V}(I:Inv X pins σ H s)(h:SqB b X.K H a xs):∃ its:List Value,ap xs its∧IsB b s.heap a its.toArray:=by
 cases b
 ·obtain⟨its,r,p,_⟩:=I.tuple h; exact⟨its,r,p⟩
 ·obtain⟨its,r,p,_⟩:=I.list h; exact⟨its,r,p.isList⟩
theorem Inv.sqB_inj{X:Cx}{pins:List (Addr×Obj)}{σ:St}{H:Hp}{s:Shared}{b:Bool}{a:Addr}{xs ys:List V}(I:Inv X pins σ H s)(h:SqB b X.K H a xs)(h':SqB b X.K H a ys):xs=ys:=by
 cases b
 ·exact I.tuple_inj h h'
 ·exact I.list_inj h h'
theorem IsB.lt{b:Bool}{h:Heap}{l:Addr}{xs:Array Value}(z:IsB b h l xs):l<h.objs.size:=by
 cases b <;> (obtain⟨o,e,_⟩:=z; exact Yi e)
def Itb(K:XC)(b1 b2:Bool)(a b:Addr):It:=
  ⟨fun i H=>∃ xs ys x y,SqB b1 K H a xs∧SqB b2 K H b ys∧xs[i]? = some x∧ys[i]? = some y,fun i H v H'=>∃ p x y,H p=none∧v=.ref p∧H'=upd H p (.tup [x,y])∧(∀ xs,SqB b1 K H a xs→xs[i]? = some x)∧∀ ys,SqB b2 K H b ys→ys[i]? = some y,
   fun i H=>∃ xs ys,SqB b1 K H a xs∧SqB b2 K H b ys∧xs.length≤i⟩
def Zbn(b1 b2:Bool)(z TI TO i1 i2 l1 l2:Addr)(i:Nat)(h:Heap):Prop:=ZAt h z TI TO .none false∧IsPair h TI (.ref i1) (.ref i2)∧(∃ a b,IsPair h TO a b)∧ItB b1 i1 l1 i h∧ItB b2 i2 l2 i h
theorem qg{P:Program}{w:World}{K:XC}{elts:List Expr}{k:Nat}{tpos:Pos}{b1 b2:Bool}{z TI TO i1 i2 l1 l2:Addr}(D:ZipApart z TI TO i1 i2 l1 l2):hV P w K (.Tuple elts k tpos) (Itb K b1 b2 l1 l2) [z,TI,TO,i1,i2] z (Zbn b1 b2 z TI TO i1 i2 l1 l2) where
 mem:=by simp
 obj:=fun i h st b hb=>by
  obtain⟨hz,hTI,⟨a,c,hTO⟩,h1,h2⟩:=st
  simp only [Yr,Y2,or_false] at hb
  rcases hb with rfl | rfl | rfl | rfl | rfl
  ·exact⟨_,hz,fun v z=>by cases z⟩
  ·exact⟨_,hTI,fun v z=>by cases z⟩
  ·exact⟨_,hTO,fun v z=>by cases z⟩
  ·exact h1.obj
  ·exact h2.obj
 keep:=fun i h h' st k=>by
  obtain⟨hz,hTI,⟨a,c,hTO⟩,h1,h2⟩:=st
  exact⟨k z (by simp) _ hz,k TI (by simp) _ hTI,⟨a,c,k TO (by simp) _ hTO⟩,h1.at (k i1 (by simp)),h2.at (k i2 (by simp))⟩
 item:=by
  intro X hP hw hK hc i pins s σ H E I hf st hg
  subst hP hw hK
  obtain⟨xs,ys,x,y,hq,hq2,hx,hy⟩:=hg
  obtain⟨its,rv,pl⟩:=I.sqB hq
  obtain⟨u,hu,ru⟩:=rv.get hx
  obtain⟨jts,rv2,pl2⟩:=I.sqB hq2
  obtain⟨u2,hu2,ru2⟩:=rv2.get hy
  obtain⟨hz,hTI,⟨a,c,hTO⟩,h1,h2⟩:=st
  have F1:=ou (P:=X.prog) (w:=X.w) b1 i1 l1 its.toArray D.l1i1
  have F2:=ou (P:=X.prog) (w:=X.w) b2 i2 l2 jts.toArray D.l2i2
  have lt1:=let ⟨_,e,_⟩:=h1.obj; Yi e
  have lt2:=let ⟨_,e,_⟩:=h2.obj; Yi e
  refine vH (fun k h z=>let ⟨_,e,_⟩:=z.1.obj; Yi e) (fun k h z=>let ⟨_,e,_⟩:=z.1.obj; Yi e) D F1 F2 hz hTI hTO ⟨h1,pl⟩ ⟨h2,pl2⟩ (by simpa using hu) (by simpa using hu2) fun h' hz' hTI' hTO' a' b' hT hk=>⟨_,rfl,?_⟩
  refine wpAny_letOwnedTupleGo_zip (s:={s with heap:=h'}) (TI:=TI) (TO:=TO) hz' fun h3 hz3 sb3=>?_
  have k3:∀ b o,b∉[z,TI,TO,i1,i2]→s.heap.get? b=some o→h3.get? b=some o:=fun b o nb q=>(sb3.2 b (fun e=>nb (by simp [e]))).trans (hk b o (fun e=>nb (by simp [e])) (fun e=>nb (by simp [e])) (fun e=>nb (by simp [e])) (fun e=>nb (by simp [e])) q)
  have lo:∀ b∈[z,TI,TO,i1,i2],dm X pins H b:=fun b hb=>(hf b hb).loose
  have nF:∀ b∈[z,TI,TO,i1,i2],b∉frs X.stack:=fun b hb e=>by
   obtain⟨_,f1,f2,_⟩:=hf b hb
   exact(Yr.mp (I.stkSub b e)).elim f1 f2
  have I3:Inv X pins σ H {s with heap:=h3,toks:=s.toks}:=I.fly (t':=s.toks) lo (fun b o q n _=>k3 b o n q) fun b o q hb=>⟨o.slots,k3 b o (fun e=>nF b e hb) q⟩
  have hn:H s.heap.objs.size=none:=I.hok.fresh (Yg _)
  have lt5:∀ b∈[z,TI,TO,i1,i2],b≠s.heap.objs.size:=fun b hb=>by
   simp only [Yr,Y2,or_false] at hb
   rcases hb with rfl | rfl | rfl | rfl | rfl
   ·exact Yu (Yi hz)
   ·exact Yu (Yi hTI)
   ·exact Yu (Yi hTO)
   ·exact Yu lt1
   ·exact Yu lt2
  have hT3:h3.get? s.heap.objs.size=some {cls:=.type "tuple",data:=.seq #[u,u2]}:=(sb3.2 _ (Ne.symm (lt5 z (by simp)))).trans hT
  have lT:dm X pins H s.heap.objs.size:=I.loose (Xh (Yg _))
  have hok:aB X.prog X.w (upd H s.heap.objs.size (.tup [x,y])) h3 s.heap.objs.size (.tup [x,y]):=⟨(by show 2≤sizeLine; decide),[u,u2],.cons ru (.cons ru2 .nil),⟨_,hT3,rfl,0,rfl⟩⟩
  have up:∀ b o,b≠z→h'.get? b=some o→h3.get? b=some o:=fun b o n e=>(sb3.2 b n).trans e
  obtain⟨a3,c3,hTO3⟩:=hTO'
  refine⟨.ref s.heap.objs.size,upd H s.heap.objs.size (.tup [x,y]),I3.trackO lT hok,rfl,⟨_,x,y,hn,rfl,rfl,fun zs hs=>by rw [I.sqB_inj hs hq]; exact hx,fun zs hs=>by rw [I.sqB_inj hs hq2]; exact hy⟩,⟨hz3,up _ _ D.TIz hTI',⟨a3,c3,up _ _ D.TOz hTO3⟩,a'.1.at fun o e=>up _ _ D.i1z e,b'.1.at fun o e=>up _ _ D.i2z e⟩,fun b hb=>?_⟩
  rw [ac (lt5 b hb)]; exact(hf b hb).1
 done:=by
  intro X hP hw hK hc i pins s σ H E I hf st hg
  subst hP hw hK
  obtain⟨xs,ys,hq,hq2,hx⟩:=hg
  obtain⟨its,rv,pl⟩:=I.sqB hq
  obtain⟨jts,rv2,pl2⟩:=I.sqB hq2
  obtain⟨hz,hTI,hTO,h1,h2⟩:=st
  have hl:=rv.length
  have F1:=ou (P:=X.prog) (w:=X.w) b1 i1 l1 its.toArray D.l1i1
  refine zF (It1:=fun k h=>ItB b1 i1 l1 k h∧IsB b1 h l1 its.toArray) (It2:=fun k h=>ItB b2 i2 l2 k h∧IsB b2 h l2 jts.toArray) (I.ok.hd hc) D F1 ⟨⟨_,_,hz,.inl rfl⟩,hTI,hTO,⟨h1,pl⟩,⟨h2,pl2⟩⟩ (by simp; omega) fun h' hk=>⟨rfl,?_⟩
  have lo:∀ b∈[z,TI,TO,i1,i2],dm X pins H b:=fun b hb=>(hf b hb).loose
  have nF:∀ b∈[z,TI,TO,i1,i2],b∉frs X.stack:=fun b hb e=>by
   obtain⟨_,f1,f2,_⟩:=hf b hb
   exact(Yr.mp (I.stkSub b e)).elim f1 f2
  have k3:∀ b o,b∉[z,TI,TO,i1,i2]→s.heap.get? b=some o→h'.get? b=some o:=fun b o nb q=>hk b o (fun e=>nb (by simp [e])) (fun e=>nb (by simp [e])) (fun e=>nb (by simp [e])) (fun e=>nb (by simp [e])) q
  exact I.fly (t':=s.toks) lo (fun b o q n _=>k3 b o n q) fun b o q hb=>⟨o.slots,k3 b o (fun e=>nF b e hb) q⟩
 self:=fun _ _ _ _ _ st h=>wpAny_pyIter_zip st.1 h
abbrev itO(b:Bool)(l:Addr):Obj:={cls:=.type (bif b then "list_iterator" else "tuple_iterator"),data:=.fields #[.ref l,.int 0 0]}
abbrev zb1(b1:Bool)(h:Heap)(l1:Addr):Heap:=h.push (itO b1 l1)
abbrev zb2(b1 b2:Bool)(h:Heap)(l1 l2:Addr):Heap:=(zb1 b1 h l1).push (itO b2 l2)
abbrev zb3(b1 b2:Bool)(h:Heap)(l1 l2:Addr):Heap:=(zb2 b1 b2 h l1 l2).push {cls:=.type "tuple",data:=.seq #[.ref h.objs.size,.ref (zb1 b1 h l1).objs.size]}
abbrev zb4(b1 b2:Bool)(h:Heap)(l1 l2:Addr):Heap:=(zb3 b1 b2 h l1 l2).push {cls:=.type "tuple",data:=.seq #[.none,.none]}
abbrev zb5(b1 b2:Bool)(h:Heap)(l1 l2:Addr):Heap:=(zb4 b1 b2 h l1 l2).push {cls:=.type "zip",data:=.fields #[.none,.bool false,.bool false,.ref (zb2 b1 b2 h l1 l2).objs.size,.ref (zb3 b1 b2 h l1 l2).objs.size]}
theorem xY(b1 b2:Bool)(l1 l2:Addr)(xs ys:Array Value):
  Meets (Builtin.«zip.__new__» ⟨[.type "zip",.ref l1,.ref l2],[]⟩) (fun _ R s=>IsB b1 s.heap l1 xs∧IsB b2 s.heap l2 ys∧R (.ok (.ret (.ref (zb4 b1 b2 s.heap l1 l2).objs.size))) {s with heap:=zb5 b1 b2 s.heap l1 l2}):=
 .of_wp fun prog w A R s h=>by
  obtain⟨hp,g,d,tk,os⟩:=s; obtain⟨hl1,hl2,h⟩:=h
  have hsub:=sub_zip
  cases b1 <;> cases b2
  ·have hL1:Heap.IsTuple (Shared.heap ⟨hp,g,d,tk,os⟩) l1 xs:=hl1
   have hL2:Heap.IsTuple (Shared.heap ⟨hp.push {cls:=.type "tuple_iterator",data:=.fields #[.ref l1,.int 0 0]},g,d,tk,os⟩) l2 ys:=Heap.IsTuple.push hl2 _
   wp_walk using wpAny_pyIter_tuple hL1,wpAny_pyIter_tuple hL2
   exact⟨_,rfl,h⟩
  ·have hL1:Heap.IsTuple (Shared.heap ⟨hp,g,d,tk,os⟩) l1 xs:=hl1
   have hL2:Heap.IsList (Shared.heap ⟨hp.push {cls:=.type "tuple_iterator",data:=.fields #[.ref l1,.int 0 0]},g,d,tk,os⟩) l2 ys:=Heap.IsList.push hl2 _
   wp_walk using wpAny_pyIter_tuple hL1,wpAny_pyIter_list hL2
   exact⟨_,rfl,h⟩
  ·have hL1:Heap.IsList (Shared.heap ⟨hp,g,d,tk,os⟩) l1 xs:=hl1
   have hL2:Heap.IsTuple (Shared.heap ⟨hp.push {cls:=.type "list_iterator",data:=.fields #[.ref l1,.int 0 0]},g,d,tk,os⟩) l2 ys:=Heap.IsTuple.push hl2 _
   wp_walk using wpAny_pyIter_list hL1,wpAny_pyIter_tuple hL2
   exact⟨_,rfl,h⟩
  ·have hL1:Heap.IsList (Shared.heap ⟨hp,g,d,tk,os⟩) l1 xs:=hl1
   have hL2:Heap.IsList (Shared.heap ⟨hp.push {cls:=.type "list_iterator",data:=.fields #[.ref l1,.int 0 0]},g,d,tk,os⟩) l2 ys:=Heap.IsList.push hl2 _
   wp_walk using wpAny_pyIter_list hL1,wpAny_pyIter_list hL2
   exact⟨_,rfl,h⟩
theorem uO{b:Bool}{l i:Addr}{h:Heap}(e:h.get? i=some (itO b l)):ItB b i l 0 h:=by cases b <;> exact⟨_,e,rfl,rfl⟩
theorem re{P:Program}{w:World}{A:Around}{E:Value→Shared→Prop}{s:Shared}{b1 b2:Bool}{l1 l2:Addr}{xs ys:Array Value}{Q:Value→Shared→Prop}(hl1:IsB b1 s.heap l1 xs)(hl2:IsB b2 s.heap l2 ys)
  (h:∀ h',Zbn b1 b2 (s.heap.objs.size+4) (s.heap.objs.size+2) (s.heap.objs.size+3) s.heap.objs.size (s.heap.objs.size+1) l1 l2 0 h'→(∀ c o,s.heap.get? c=some o→h'.get? c=some o)→Q (.ref (s.heap.objs.size+4)) {s with heap:=h'}) :
  wpAny (model P w) A (call (.type "zip") [.ref l1,.ref l2]) Q E s:=by
 refine callType_new F.called_zip (by decide) (F.typeCall_zip_2 _ _) (F.newCall_zip_2 _ _) (fun obj=>F.args_object_init_3 obj _ _) F.entry_zip_new (xY b1 b2 l1 l2 xs ys) ⟨hl1,hl2,?_⟩
 have z1:(zb1 b1 s.heap l1).objs.size=s.heap.objs.size+1:=YO ..
 have z2:(zb2 b1 b2 s.heap l1 l2).objs.size=s.heap.objs.size+2:=by rw [YO,z1]
 have z3:(zb3 b1 b2 s.heap l1 l2).objs.size=s.heap.objs.size+3:=by rw [YO,z2]
 have z4:(zb4 b1 b2 s.heap l1 l2).objs.size=s.heap.objs.size+4:=by rw [YO,z3]
 have g5:(zb5 b1 b2 s.heap l1 l2).get? (zb4 b1 b2 s.heap l1 l2).objs.size=some _:=Yo _ rfl
 have g4:(zb5 b1 b2 s.heap l1 l2).get? (zb3 b1 b2 s.heap l1 l2).objs.size=some _:=Ye _ (Yo _ rfl)
 have g3:(zb5 b1 b2 s.heap l1 l2).get? (zb2 b1 b2 s.heap l1 l2).objs.size=some _:=Ye _ (Ye _ (Yo _ rfl))
 have g2:(zb5 b1 b2 s.heap l1 l2).get? (zb1 b1 s.heap l1).objs.size=some (itO b2 l2):=Ye _ (Ye _ (Ye _ (Yo _ rfl)))
 have g1:(zb5 b1 b2 s.heap l1 l2).get? s.heap.objs.size=some (itO b1 l1):=Ye _ (Ye _ (Ye _ (Ye _ (Yo _ rfl))))
 show _∧_
 rw [z2,z3,z4] at g5
 rw [z1,z2] at g3
 rw [z3] at g4
 rw [z1] at g2
 rw [z4]
 exact⟨⟨_,g5,rfl⟩,h _ ⟨g5,g3,⟨_,_,g4⟩,uO g1,uO g2⟩ fun c o x=>Ye _ (Ye _ (Ye _ (Ye _ (Ye _ x))))⟩
section
variable{X:Cx}{elts:List Expr}{k:Nat}{tpos:Pos}
inductive iZipBI(K:XC)(R:It→Hp→Prop)(vs:List V)(H1:Hp):Prop | mk (b1 b2 a b xs ys) (_:vs=[.ref a,.ref b]) (_:SqB b1 K H1 a xs) (_:SqB b2 K H1 b ys) (_:R (Itb K b1 b2 a b) H1)
def Ao(K:XC)(ta:TA):TI:=fun σ H R=>ta σ H (iZipBI K R)
theorem wf{e1 e2:Expr}{ta:TA}{p pos:Pos}(hg:Gl X "zip")(hm:X.mg "zip"=none)(ha:PA X [e1,e2] ta)(hs:starEach [e1,e2] X.env=(false,eval e1 X.env)::starEach [e2] X.env:=by rfl)(hpl:(backTo pos (starEach [e2] X.env)).any (·.1)=false:=by rfl):
  PI X (.Tuple elts k tpos) (.Call (.Name "zip" p) [e1,e2] [] pos) (Ao X.K ta):=by
 intro pins s σ H R I h
 refine Call_ (gH I hg hm zt (PyProof.Rows.callWith_type1 (thn (ha pos pins s σ H _ I h) fun us s1 ⟨vs,H1,I1,r1,q1⟩=>?_) hs hpl))
 obtain⟨b1,b2,a,b,xs,ys,e,hq,hq2,q⟩:=q1
 subst e
 obtain⟨u,v,rfl,ru,rv⟩:=gP r1
 cases ru
 cases rv
 obtain⟨its,r',pl⟩:=I1.sqB hq
 obtain⟨jts,r2,pl2⟩:=I1.sqB hq2
 refine re pl pl2 fun h' hZ hk=>?_
 refine wpAny_pyIter_zip hZ.1 ?_
 refine⟨s1.heap.objs.size+4,[s1.heap.objs.size+4,s1.heap.objs.size+2,s1.heap.objs.size+3,s1.heap.objs.size,s1.heap.objs.size+1],_,_,H1,rfl,I1.kept (t':=s1.toks) hk,qg (zipApart_new pl.lt pl2.lt),hZ,fun c hc=>?_,q⟩
 have hc':s1.heap.objs.size≤c:=by
  simp only [Yr,Y2,or_false] at hc
  rcases hc with rfl | rfl | rfl | rfl | rfl
  ·exact Nat.le_add_right _ 4
  ·exact Nat.le_add_right _ 2
  ·exact Nat.le_add_right _ 3
  ·exact Yg _
  ·exact Nat.le_add_right _ 1
 exact I1.fpOk hc' (I1.hok.fresh hc')
end
theorem rK{K:XC}{b1 b2:Bool}{a b:Addr}{xs ys:List V}{te:TE}{σ:St}{H:Hp}{Q:VK}(hlen:xs.length=ys.length)(hz:xs.length≤sizeLine)(Pv:Nat→List V→Hp→Prop)(h0:Pv 0 [] H)(hk:∀ i zs H1,Pv i zs H1→SqB b1 K H1 a xs∧SqB b2 K H1 b ys)
  (hs:∀ i x y zs H1 H2,xs[i]? = some x→ys[i]? = some y→zs.length=i→Pv i zs H1→Same H1 H2→te (some x::some y::σ) H2 fun v H3=>Pv (i+1) (zs++[v]) H3)
  (hd:∀ zs H1,zs.length=xs.length→Pv xs.length zs H1→∀ D,H1 D=none→Q (.ref D) (upd H1 D (.lst zs))):fG 2 (Itb K b1 b2 a b) (gTup K 2 (gCons (cG 0) (gCons (cG 1) As))) te σ H Q:=by
 refine⟨fun i m zs σ' H1=>m=xs.length-i∧i≤xs.length∧zs.length=i∧(∃ o1 o2,σ'=o1::o2::σ)∧Pv i zs H1,⟨xs.length,by simp,Yy _,rfl,⟨none,none,rfl⟩,h0⟩,?_⟩
 rintro i m zs σ' H1 ⟨rfl,hi,hy,⟨o1,o2,rfl⟩,p⟩
 obtain⟨e1,e2⟩:=hk i zs H1 p
 by_cases hlt:i<xs.length
 ·refine .inr ⟨⟨xs,ys,xs[i],ys[i],e1,e2,by simp [hlt],by simp [hlen▸hlt]⟩,by omega,fun x H' y=>?_⟩
  obtain⟨pp,x',y',hn,rfl,rfl,g1,g2⟩:=y
  refine⟨pp,[x',y'],rfl,SqT.of aa,rfl,_,_,rfl,_,_,rfl,rfl,?_⟩
  exact⟨fun v H3=>Pv (i+1) (zs++[v]) H3,hs i x' y' zs H1 _ (g1 xs e1) (g2 ys e2) hy p (ad hn _),fun v H3 h3=>⟨xs.length - (i+1),by omega,rfl,hlt,by simp [hy],⟨_,_,rfl⟩,h3⟩⟩
 ·obtain rfl:i=xs.length:=by omega
  exact .inl ⟨⟨xs,ys,e1,e2,Yg _⟩,hd zs H1 hy p⟩
theorem u4{K:XC}{b1 b2:Bool}{a b:Addr}{xs ys:List V}{g:TG}{tb:TS}{D:dJ}{σ:St}{H:Hp}(hlen:xs.length=ys.length)(Pv:Nat→St→Hp→Prop)(h0:Pv 0 σ H)(hl:∀ i σ H,i≤xs.length→Pv i σ H→SqB b1 K H a xs∧SqB b2 K H b ys)
  (hs:∀ i x y σ H p,xs[i]? = some x→ys[i]? = some y→H p=none→Pv i σ H→g (.ref p) σ (upd H p (.tup [x,y])) fun σ2 H2=>tb {D with nx:=Pv (i+1),ct:=Pv (i+1),bk:=D.nx} σ2 H2) (hd:∀ σ H,Pv xs.length σ H→D.nx σ H) :
  ∃ W:Nat→Nat→St→Hp→Prop,(∃ m,W 0 m σ H)∧∀ i m σ H,W i m σ H→
   ((Itb K b1 b2 a b).stop i H∧D.nx σ H)∨((Itb K b1 b2 a b).go i H∧∃ N:St→Hp→Prop,(∀ σ' H',N σ' H'→∃ m',m'<m∧W (i+1) m' σ' H')∧∀ x H',(Itb K b1 b2 a b).yld i H x H'→g x σ H' fun σ2 H2=>tb {D with nx:=N,ct:=N,bk:=D.nx} σ2 H2):=by
 refine⟨fun i m σ H=>m=xs.length-i∧i≤xs.length∧Pv i σ H,⟨xs.length,by simp,Yy _,h0⟩,?_⟩
 rintro i m σ H ⟨rfl,hi,p⟩
 obtain⟨q1,q2⟩:=hl i σ H hi p
 by_cases hlt:i<xs.length
 ·refine .inr ⟨⟨xs,ys,xs[i],ys[i],q1,q2,by simp [hlt],by simp [hlen▸hlt]⟩,Pv (i+1),fun σ' H' p'=>⟨xs.length - (i+1),by omega,rfl,hlt,p'⟩,fun x H' y=>?_⟩
  obtain⟨pp,x',y',hp,rfl,rfl,e1,e2⟩:=y
  exact hs i x' y' σ H pp (e1 xs q1) (e2 ys q2) hp p
 ·have e:i=xs.length:=by omega
  subst e
  exact .inl ⟨⟨xs,ys,q1,q2,Yg _⟩,hd σ H p⟩
theorem ir:∀ {ns:List Int} {us:List Value},ap (ns.map V.int) us→∃ ts:List (Int×Tok),us=ts.map (fun p=>Value.int p.1 p.2)∧ts.map (·.1)=ns
 | [],_,.nil=>⟨[],rfl,rfl⟩
 | n::r,_,.cons a h=>by
  obtain⟨t,rfl⟩:=a
  obtain⟨ts,e1,e2⟩:=ir h
  exact⟨(n,t)::ts,by rw [e1]; rfl,by rw [← e2]; rfl⟩
section
variable{X:Cx}
inductive rCall_maxLI(K:XC)(xs:List V)(H:Hp)(Q:VK):Prop | mk (p:Addr) (ns:List Int) (_:xs=[.ref p]) (_:SqL K H p (ns.map V.int)) (_:ns≠[]) (_:∀ m∈ns,Q (.int m) H)
theorem rj(hc:X.calm=true):bU X (.builtin "max") (rCall_maxLI X.K):=by
 intro pins s σ H xs us Q I r h
 obtain⟨p,ns,rfl,hq,hn,q⟩:=h
 obtain⟨u,rfl,rx⟩:=cM r
 cases rx
 obtain⟨its,rv,pl,_⟩:=I.list hq
 obtain⟨ts,rfl,rfl⟩:=ir rv
 have e:(ts.map (fun p=>Value.int p.1 p.2)).toArray=intItems ts.toArray:=by simp [intItems]
 refine max_intList (xs:=ts.toArray) (I.ok.hd hc) (by rw [← e]; exact pl.isList) (by
  cases ts with
  | nil=>exact absurd rfl hn
  | cons _ _=>simp) fun v h' tk hv hk=>?_
 rw [← e] at hv
 have hv':v∈ts.map (fun p=>Value.int p.1 p.2):=by
  have:=Array.mem_of_getElem? hv
  simpa using this
 obtain⟨x,hx,rfl⟩:=Y7.mp hv'
 exact⟨.int x.1,H,I.kept hk,⟨_,rfl⟩,q x.1 (Y7.mpr ⟨x,hx,rfl⟩)⟩
end
theorem eA(l:Addr)(o:Obj)(b:Str)(u:Tok):
  Meets (Builtin.«dict.__eq__» ⟨[.ref l,.str b u],[]⟩) (fun _ R s=>s.heap.get? l=some o∧o.cls=.type "dict"∧R (.ok (.ret .notImplemented)) s):=
 .of_wp fun prog w A R s h=>by obtain⟨hp,g,d,tk,os⟩:=s; obtain⟨hl,hc,h⟩:=h; have f1:=F.sub_str_dict; wp_walk using wpAny_load hl; exact⟨_,rfl,h⟩
theorem d8{es:Array DictEntry}{ep:Nat}{dd:Option Addr}{sl:Array (Option Value)}(b:Str)(u:Tok)(l:Addr):
  Meets (Builtin.«str.__eq__» ⟨[.str b u,.ref l],[]⟩) (fun _ R s=>s.heap.get? l=some {cls:=.type "dict",dict:=dd,data:=.dict es ep,slots:=sl}∧R (.ok (.ret .notImplemented)) s):=
 .of_wp fun prog w A R s h=>by obtain⟨hp,g,d,tk,os⟩:=s; obtain⟨hl,h⟩:=h; have f1:=F.sub_dict_str; wp_walk using wpAny_load hl; exact⟨_,rfl,h⟩
theorem mH{A:Around}{s:Shared}{l:Addr}{o:Obj}{es:Array DictEntry}{ep:Nat}(b:Str)(u:Tok)(ho:s.heap.get? l=some o)(hc:o.cls=.type "dict")(hd:o.data=.dict es ep)(hu:A.units<cLine):SeqAt.EqAt A s (.str b u) (.ref l) false:=fun prog w E Q h=>by
 obtain⟨cls,dd,data,sl⟩:=o
 simp only at hc hd
 subst hc hd
 unfold eqBool
 refine wpAny_holding ?_
 refine wpAny_ite_split (fun hab=>absurd (eq_of_beq hab) nofun) (fun _=>?_)
 refine Yd (SeqAt.rc_eq_decline_or (k:=false) (Ta:="str") (Tb:="dict") rfl ⟨_,ho,rfl⟩ (by decide) F.sub_dict_str F.slot_str_eq F.slot_dict_eq_refl
  (fun _ hq=>call_meets F.slot_str_eq rfl F.entry_str_eq (F.args_str_eq_2 _ _) (d8 b u l) ⟨ho,hq⟩)
  (fun _ hq=>call_meets F.slot_dict_eq_refl ⟨_,ho,rfl⟩ F.entry_dict_eq (F.args_dict_eq_2 _ _) (eA l _ b u) ⟨ho,rfl,hq⟩)
  (fun _ hq=>wpAny_of_eq (rfl:isSame (.str b u) (.ref l)=pure false) hq) (.inr hu) (wpAny_truthy_bool h))
inductive NoS(K:XC)(H:Hp):V→Prop where
 | flat {v:V}:dZ v=true→NoS K H v
 | row {a:Addr} {xs:List V}:SqL K H a xs∨SqT K H a xs→NoS K H (.ref a)
 | dct {a:Addr} {kvs:List (Key×V)}:H a=some (.dK kvs)→NoS K H (.ref a)
section
variable{X:Cx}
theorem vf{A:Around}{pins:List (Addr×Obj)}{σ:St}{H:Hp}{s:Shared}{x:V}{v:Value}(I:Inv X pins σ H s)(hu:A.units<cLine)(rx:aq x v)(n:NoS X.K H x)(b:Str)(t:Tok):SeqAt.EqAt A s (.str b t) v (eqV (.str b) x):=by
 cases n with
 | flat f=>exact vh (y:=.str b) ⟨t,rfl⟩ rx rfl f
 | row h=>
  cases rx
  rcases h with h | h
  ·obtain⟨its,r,pl,_⟩:=I.list h
   exact SeqAt.EqAt.str_list b t pl.isList hu
  ·obtain⟨its,r,pl,_⟩:=I.tuple h
   exact SeqAt.EqAt.str_tuple b t pl hu
 | dct h=>
  cases rx
  obtain⟨o,es,ep,vs,h1,h2,h3,_⟩:=kU I.hok h
  exact mH b t h1 h2 h3 hu
inductive rInW(K:XC)(x y:V)(H:Hp)(Q:VK):Prop | mk (p:Addr) (ws:List Str) (_:y=.ref p) (_:SqT K H p (ws.map V.str)) (_:NoS K H x) (_:Q (.bl (inV x (ws.map V.str))) H)
theorem tT(hu:X.A.units+1<cLine):OpR X (compareOp .In) (rInW X.K):=by
 intro pins s σ H x y v u Q I rx ry h
 obtain⟨p,ws,rfl,hq,n,q⟩:=h
 cases ry
 obtain⟨its,r,pl,hz⟩:=I.tuple hq
 have hm:∀ {ws:List Str} {us:List Value},ap (ws.map V.str) us→(∀ w∈us,SeqAt.EqAt X.A.in1 s w v (eqU x w))∧us.any (eqU x)=inV x (ws.map V.str):=by
  intro ws
  induction ws with
  | nil=>intro us r; cases r; exact⟨(fun _ z=>nomatch z),rfl⟩
  | cons b ws ih=>
   intro us r
   cases r with | cons a r=>
   obtain⟨t,rfl⟩:=a
   obtain⟨h1,h2⟩:=ih r
   refine⟨fun w hw=>?_,by rw [Y9,h2]; rfl⟩
   rcases Yr.mp hw with rfl | hw
   ·exact vf I hu rx n b t
   ·exact h1 w hw
 obtain⟨h1,h2⟩:=hm r
 refine SeqAt.in_tupleAt (eqU x) pl (fun w hw=>h1 w (by simpa using hw)) ⟨.bl _,H,I,rfl,?_⟩
 rw [show its.toArray.any (eqU x)=its.any (eqU x) by simp,h2]
 exact q
end
end L2
namespace L2
open PySem PySem.Spec PyProof.Rows PySem.Builtin PySem.Builtin.Str
theorem uT(a b n:Nat):strSliceIndices (some (a:Int)) (some (b:Int)) 1 n=strSliceIndices (some ((min a n:Nat):Int)) (some ((max (min a n) (min b n):Nat):Int)) 1 n:=by
 have nn:∀ k:Nat,¬ ((k:Int)<0):=fun k=>Int.not_lt.mpr (Int.natCast_nonneg k)
 have z:∀ k:Nat,max (0:Int) (min (k:Int) (n:Int))=((min k n:Nat):Int):=fun k=>by omega
 simp only [strSliceIndices,nn,if_false,show ((1:Int) > 0)=True from by simp,if_true]
 rw [z,z,z,z,Nat.min_eq_left (Nat.min_le_right a n),Nat.min_eq_left (Nat.max_le.mpr ⟨Nat.min_le_right a n,Nat.min_le_right b n⟩)]
 rcases Nat.le_total a b with h | h
 ·have:min a n≤min b n:=by omega
  rw [Nat.max_eq_right this]
 ·have:min b n≤min a n:=by omega
  have l:¬ (((min a n:Nat):Int)<((min b n:Nat):Int)):=Int.not_lt.mpr (Int.ofNat_le.mpr this)
  rw [Nat.max_eq_left this]
  simp only [sliceRange,show ((1:Int) > 0)=True from by simp,if_true,l,Int.lt_irrefl,if_false]
theorem dB(x:Str)(a b:Nat):(Txt.slice x (some (a:Int)) (some (b:Int))).cps.toList=(x.cps.toList.drop a).take (b-a):=by
 have hl:x.cps.toList.length=x.length:=by simp [Str.length]
 have e:Txt.slice x (some (a:Int)) (some (b:Int))=StrLaws.sliceText x (some ((min a x.length:Nat):Int)) (some ((max (min a x.length) (min b x.length):Nat):Int)):=by
  unfold Txt.slice StrLaws.sliceText
  rw [uT]
 have i1:=Nat.min_le_right a x.length
 have i2:=Nat.min_le_right b x.length
 rw [e,StrLaws.sliceText_nat x (Nat.le_max_left _ _) (Nat.max_le.mpr ⟨i1,i2⟩)]
 show ((x.cps.toList.drop (min a x.length)).take (max (min a x.length) (min b x.length) - min a x.length))=_
 clear e i1 i2
 rw [← hl]
 generalize x.cps.toList=l
 clear hl
 by_cases h:a≤l.length
 ·rw [Nat.min_eq_left h]
  by_cases hb:b≤l.length
  ·rw [Nat.min_eq_left hb]
   rcases Nat.le_total a b with q | q
   ·rw [Nat.max_eq_right q]
   ·rw [Nat.max_eq_left q,Nat.sub_self,Nat.sub_eq_zero_of_le q]
  ·rw [List.take_of_length_le (by rw [List.length_drop]; omega),List.take_of_length_le (by rw [List.length_drop]; omega)]
 ·rw [Nat.min_eq_right (by omega),List.drop_eq_nil_of_le (Nat.le_refl _),List.drop_eq_nil_of_le (by omega),List.take_nil,List.take_nil]
theorem iG(x:Str)(b:Nat):(Txt.slice x none (some (b:Int))).cps.toList=x.cps.toList.take b:=by
 have e:Txt.slice x none (some (b:Int))=Txt.slice x (some ((0:Nat):Int)) (some (b:Int)):=by
  unfold Txt.slice
  rw [StrLaws.sliceIdx_none_lo]; rfl
 rw [e,dB]; rfl
theorem iF(x:Str)(a:Nat):(Txt.slice x (some (a:Int)) none).cps.toList=x.cps.toList.drop a:=by
 have e:Txt.slice x (some (a:Int)) none=Txt.slice x (some (a:Int)) (some (x.length:Int)):=by
  unfold Txt.slice
  rw [StrLaws.sliceIdx_none_hi]
 have hl:x.cps.toList.length=x.length:=by simp [Str.length]
 rw [e,dB,YF (by rw [YY]; omega)]
inductive rSlStr(x:V)(lo hi:Option Int)(H:Hp)(Q:VK):Prop | mk (z:Str) (_:x=.str z) (_:z.length≤sizeLine) (_:Q (.str (Txt.slice z lo hi)) H)
section
variable{X:Cx}
theorem pw{v:Value}{i:Option Int}(h:IsPart v i):∃ l:Option (Int×Tok),v=partValue l∧l.map (·.1)=i:=by
 cases h with
 | none=>exact⟨none,rfl,rfl⟩
 | int i t=>exact⟨some (i,t),rfl,rfl⟩
theorem yj:SlR X rSlStr:=by
 intro pins s σ H x v vl vu lo hi sl Q I rx hs pl pu h
 obtain⟨z,rfl,hz,q⟩:=h
 obtain⟨t,rfl⟩:=rx
 obtain⟨l,rfl,el⟩:=pw pl
 obtain⟨u,rfl,eu⟩:=pw pu
 subst el
 subst eu
 refine⟨"str",_,F.slot_str_getitem.lookup,typeIs_str _ _ _,wpAny_getItem_str_slice (l:=l) (u:=u) (st:=none) hs rfl ?_⟩
 exact post_val_or_str ⟨Yn (Txt.slice_le z _ _) hz,fun t' k=>⟨.str (Txt.slice z (l.map (·.1)) (u.map (·.1))),H,I.tok k,⟨t',rfl⟩,q⟩⟩
inductive rNotW(K:XC)(x y:V)(H:Hp)(Q:VK):Prop | mk (p:Addr) (ws:List Str) (_:y=.ref p) (_:SqL K H p (ws.map V.str)) (_:NoS K H x) (_:Q (.bl (!inV x (ws.map V.str))) H)
theorem pz(hu:X.A.units+1<cLine):OpR X (compareOp .NotIn) (rNotW X.K):=by
 intro pins s σ H x y v u Q I rx ry h
 obtain⟨p,ws,rfl,hq,n,q⟩:=h
 cases ry
 obtain⟨its,r,pl,hz⟩:=I.list hq
 have hm:∀ {ws:List Str} {us:List Value},ap (ws.map V.str) us→(∀ w∈us,SeqAt.EqAt X.A.in1 s w v (eqU x w))∧us.any (eqU x)=inV x (ws.map V.str):=by
  intro ws
  induction ws with
  | nil=>intro us r; cases r; exact⟨(fun _ z=>nomatch z),rfl⟩
  | cons b ws ih=>
   intro us r
   cases r with | cons a r=>
   obtain⟨t,rfl⟩:=a
   obtain⟨h1,h2⟩:=ih r
   refine⟨fun w hw=>?_,by rw [Y9,h2]; rfl⟩
   rcases Yr.mp hw with rfl | hw
   ·exact vf I hu rx n b t
   ·exact h1 w hw
 obtain⟨h1,h2⟩:=hm r
 refine SeqAt.notIn_listAt (eqU x) pl.isList (fun w hw=>h1 w (by simpa using hw)) ⟨.bl _,H,I,rfl,?_⟩
 rw [show its.toArray.any (eqU x)=its.any (eqU x) by simp,h2]
 exact q
end
end L2
set_option maxHeartbeats 4000000
namespace L2
open PySem PySem.Spec PyProof.Rows
section
variable{X:Cx}{tg:Expr}
theorem PI.or{l:Expr}{wi wi':TI}(h:PI X tg l wi)(h':PI X tg l wi'):PI X tg l (fun σ H R=>wi σ H R∨wi' σ H R):=by
 intro pins s σ H R I q
 rcases q with q | q
 ·exact h pins s σ H R I q
 ·exact h' pins s σ H R I q
def zj(K:XC)(tl:TE):TI:=fun σ H R=>xU K tl σ H R∨Ap K tl σ H R
theorem yF{l:Expr}{tl:TE}(hl:PE X l tl):PI X tg l (zj X.K tl):=(pi hl).or (tw hl)
theorem qN(K:XC):PySem.W.kitAny K (.type "list") [.type "list",.type "tuple"]=some true:=rfl
theorem og(K:XC):PySem.W.kitAny K (.type "tuple") [.type "list",.type "tuple"]=some true:=rfl
theorem iY(K:XC):PySem.W.kitOne K (.type "str") (.type "str")=some true:=rfl
theorem ku{t u:TS}{D:dJ}{σ:St}{H:Hp}(Mid:St→Hp→Prop)(hu:∀ σ' H',Mid σ' H'→u D σ' H')(h:(∀ σ' H',Mid σ' H'→u D σ' H')→t {D with nx:=u D} σ H):ql t u D σ H:=h hu
end
theorem oz{n:Nat}{K:XC}{a:Addr}{xs:List V}{g:TG}{tk tv:TE}{σ:St}{H:Hp}{Q:VK}(hz:xs.length≤sizeLine)(Pv:Nat→List (Key×V)→Hp→Prop)(h0:Pv 0 [] H)(hl:∀ i kvs H,i≤xs.length→Pv i kvs H→SqL K H a xs∧kvs.length≤i)
  (hs:∀ (R:St→Hp→List (Key×V)→Prop) i x kvs H (vs:List (Option V)),vs.length=n→xs[i]? = some x→Pv i kvs H→(∀ vs' H4 kvs',List.length vs'=n→Pv (i+1) kvs' H4→R (vs'++σ) H4 kvs')→
   g x (vs++σ) H fun σ2 H2=>tk σ2 H2 fun y H3=>tv σ2 H3 fun v H4=>∃ k,y=kV k∧R σ2 H4 (cr kvs k v))
  (hd:∀ kvs H,Pv xs.length kvs H→∀ D,H D=none→Q (.ref D) (upd H D (.dK kvs))):ij n (Itl K a) g tk tv σ H Q:=by
 refine⟨fun i m kvs σ' H=>i≤xs.length∧m=xs.length-i∧(∃ vs:List (Option V),vs.length=n∧σ'=vs++σ)∧Pv i kvs H,⟨xs.length,Yy _,rfl,⟨_,Y3,rfl⟩,h0⟩,?_⟩
 rintro i m kvs σ' H1 ⟨hi,rfl,⟨vs,hv,rfl⟩,p⟩
 obtain⟨q1,q2⟩:=hl i kvs H1 hi p
 by_cases hlt:i<xs.length
 ·refine .inr ⟨⟨xs,xs[i],q1,by simp [hlt]⟩,YI q2 (YC hlt hz),fun x H' y=>?_⟩
  obtain⟨rfl,y⟩:=y
  exact hs (fun σ2 H4 kvs'=>∃ m',m'<xs.length-i∧i+1≤xs.length∧m'=xs.length - (i+1)∧(∃ vs:List (Option V),vs.length=n∧σ2=vs++σ)∧Pv (i+1) kvs' H4) i x kvs _ vs hv (y xs q1) p fun vs' H4 kvs' hv' p'=>⟨_,by omega,hlt,rfl,⟨vs',hv',rfl⟩,p'⟩
 ·have e:i=xs.length:=by omega
  subst e
  exact .inl ⟨⟨xs,q1,Yg _⟩,hd kvs H1 p⟩
theorem gK(c:Nat)(z:List Nat):∀ {l:List Nat},c∉l→(l.flatMap fun d=>if d=c then z else [d])=l
 | [],_=>rfl
 | d::r,h=>by
  rw [List.flatMap_cons,if_neg (fun e=>h (by rw [e]; exact Yl)),gK c z (fun e=>h (Yj _ e))]
  rfl
theorem jR(c:Nat)(z:Str):∀ {ps:List Str},(∀ p∈ps,c∉p.cps.toList)→(Str.join z ps).cps.toList=(Str.join ⟨#[c]⟩ ps).cps.toList.flatMap fun d=>if d=c then z.cps.toList else [d]
 | [],_=>rfl
 | [x],h=>(gK c _ (h x Yl)).symm
 | x::y::r,h=>by
  rw [bF c x y r,List.flatMap_append,gK c _ (h x Yl),List.flatMap_cons,if_pos rfl,← jR c z (fun p hp=>h p (Yj _ hp))]
  show (x++z++Str.join z (y::r)).cps.toList=_
  rw [aG,aG,YM]
theorem fS(x z:Str)(c:Nat):(Txt.replace x ⟨#[c]⟩ z).cps.toList=x.cps.toList.flatMap fun d=>if d=c then z.cps.toList else [d]:=by
 rw [StrLaws.replace_one,jR c z (StrLaws.split_free x c),StrLaws.join_split]
section
variable{X:Cx}
inductive rCall_reprYI(xs:List V)(H:Hp)(Q:VK):Prop | mk (R:Addr→Prop) (x:V) (d:PyData) (_:xs=[x]) (_:RdD R H x d) (_:d.showable=true) (_:d.depth≤60) (_:d.shown.length≤sizeLine) (_:Q (.str d.shown) H)
theorem oB{k:Nat}(hr:aI k X.A):bU X (.builtin "repr") rCall_reprYI:=by
 intro pins s σ H xs us Q I r h
 obtain⟨R,x,d,rfl,hd,h1,h3,h4,q⟩:=h
 have refs:∀ p,x=.ref p→wpAny (model X.prog X.w) X.A (call (.builtin "repr") us) (EP X pins σ Q) X.xe s:=fun p e=>by
  subst e
  exact oC hr pins s σ H [.ref p] us Q I r ⟨R,p,d,rfl,hd,h1,h3,h4,q⟩
 obtain⟨u,rfl,rx⟩:=cM r
 cases hd with
 | non=>cases rx; exact PySem.P.repr_of_none ⟨.str "None",H,I.tok _,⟨_,rfl⟩,q⟩
 | bl b=>cases rx; exact PySem.P.repr_of_bool ⟨.str _,H,I.tok _,⟨_,rfl⟩,q⟩
 | int i=>obtain⟨t,rfl⟩:=rx; exact PySem.P.repr_of_int (by simpa [PyData.showable] using h1) ⟨.str _,H,I.tok _,⟨_,rfl⟩,q⟩
 | str z=>obtain⟨t,rfl⟩:=rx; exact PySem.P.repr_of_str ⟨.str _,H,I.tok _,⟨_,rfl⟩,q⟩ h4
 | lst _ _ _=>exact refs _ rfl
 | tup _ _ _=>exact refs _ rfl
 | d0 _ _=>exact refs _ rfl
 | d1 _ _=>exact refs _ rfl
end
abbrev LC(k:NameKind)(s:Scope)(x:String):Prop:=s.names.lookup (Str.ofString x)=some k
abbrev LN(k:NameKind)(s:Stmt)(x:String):Prop:=(ag s).names.lookup (Str.ofString x)=some k
abbrev LD(x:String):Prop:=((Str.ofString x:Str)==("__debug__":Str))=false
abbrev LS(x:String):Prop:=((Str.ofString x:Str)==("__classdict__":Str))=false
abbrev LM(x:String):Prop:=(Str.ofString x:Str)≠"__name__"
end L2
theorem Few.le1{α:Type}{l:List α}(h:l.length=1):∃ v0,l=[v0]:=match l,h with
 | [v0],_=>⟨_,rfl⟩
theorem Few.le2{α:Type}{l:List α}(h:l.length=2):∃ v0 v1,l=[v0,v1]:=match l,h with
 | [v0,v1],_=>⟨_,_,rfl⟩
theorem Few.le3{α:Type}{l:List α}(h:l.length=3):∃ v0 v1 v2,l=[v0,v1,v2]:=match l,h with
 | [v0,v1,v2],_=>⟨_,_,_,rfl⟩
theorem Few.le4{α:Type}{l:List α}(h:l.length=4):∃ v0 v1 v2 v3,l=[v0,v1,v2,v3]:=by
 obtain⟨a0,l,rfl⟩:=List.exists_cons_of_length_eq_add_one h; replace h:=Nat.succ.inj h
 obtain⟨v1,v2,v3,rfl⟩:=Few.le3 h
 exact⟨_,_,_,_,rfl⟩
theorem Few.le5{α:Type}{l:List α}(h:l.length=5):∃ v0 v1 v2 v3 v4,l=[v0,v1,v2,v3,v4]:=by
 obtain⟨a0,l,rfl⟩:=List.exists_cons_of_length_eq_add_one h; replace h:=Nat.succ.inj h
 obtain⟨v1,v2,v3,v4,rfl⟩:=Few.le4 h
 exact⟨_,_,_,_,_,rfl⟩
theorem Few.le6{α:Type}{l:List α}(h:l.length=6):∃ v0 v1 v2 v3 v4 v5,l=[v0,v1,v2,v3,v4,v5]:=by
 obtain⟨a0,l,rfl⟩:=List.exists_cons_of_length_eq_add_one h; replace h:=Nat.succ.inj h
 obtain⟨a1,l,rfl⟩:=List.exists_cons_of_length_eq_add_one h; replace h:=Nat.succ.inj h
 obtain⟨a2,l,rfl⟩:=List.exists_cons_of_length_eq_add_one h; replace h:=Nat.succ.inj h
 obtain⟨v3,v4,v5,rfl⟩:=Few.le3 h
 exact⟨_,_,_,_,_,_,rfl⟩
namespace Few
open PySem PySem.Spec L2
abbrev lA0:List Str:=["_law_book_here","_law_thing","_law_meant_here"]
abbrev lA1:List Str:=["_law_pot_here","_law_book_here","_law_scope","_law_deep"]
abbrev lA2:List Str:=["_law_book_here","_law_thing","_law_places","_law_meant_here"]
abbrev lA3:List Str:=["_law_pot_here","_law_book_here","_law_scope","_law_kind","_law_deep"]
abbrev lA4:List Str:=["table","thing","scope","room"]
abbrev lA5:List Str:=["table","things","places","scope","room"]
abbrev lA6:List Str:=["_law_pot_here","_law_many"]
abbrev lA7:List Str:=["_law_thing"]
abbrev lA8:List Str:=["thing"]
abbrev lA9:List Str:=["table","word","things","scope","room"]
abbrev lB0:List Str:=["_law_pot_here","_law_book_here","_law_deep"]
abbrev lB1:List Str:=["_law_pot_here","_law_most_kinds","_law_most_signs"]
abbrev lB2:List Str:=["_law_pot_here","_law_scope","_law_kind"]
abbrev lB3:List Str:=["_law_signs","_law_name_here"]
abbrev lB4:List Str:=["self","kinds","ties","functions"]
abbrev lB5:List Str:=["_law_pot_here","_law_many","_law_menu"]
abbrev lB6:List Str:=["_law_one","_law_book_here","_law_thing","_law_meant_here","_law_word","_law_kinds","_law_sign_here"]
abbrev lB7:List Str:=["table","things","scope","room"]
abbrev lB8:List Str:=["things","many"]
abbrev lB9:List Str:=["_law_book_here","_law_thing"]
abbrev lC0:List Str:=["_law_book_here","_law_text"]
abbrev lC1:List Str:=["_law_pot_here","_law_text"]
abbrev lC2:List Str:=["_law_script","_law_k"]
abbrev lC3:List Str:=["self"]
abbrev lC4:List Str:=["_law_signs","_law_thing"]
abbrev lC5:List Str:=["kinds","kind"]
abbrev lC6:List Str:=["thing","room"]
abbrev lC7:List Str:=["kinds","places"]
abbrev lC8:List Str:=["_law_cell_here"]
abbrev lC9:List Str:=["not","and","or"]
abbrev lD0:List Str:=["signs","thing"]
abbrev lD1:List Str:=["kinds","function"]
abbrev lD2:List Str:=["all","some"]
abbrev lD3:List Str:=["self","signs"]
abbrev lD4:List Str:=["signs","text"]
abbrev lD5:List Str:=["name","places","kind","self","signs"]
abbrev lD6:List Str:=["_law_text"]
abbrev lD7:List Str:=["kinds","tie"]
abbrev lD8:List Str:=["_law_scope"]
abbrev lD9:List Str:=["names"]
abbrev lE0:List Str:=["_law_e"]
abbrev lE1:List Str:=["_law_script"]
abbrev lE2:List Str:=["name"]
abbrev lE3:List Str:=["kinds"]
variable{P:Program}{w:World}{K:XC}{mg:Str→Option Value}{base:Heap}
def top(i:Nat):Stmt:=PySem.Challenge.pw_fewthings_k15_spoilt_sayings_read.main.body.getD i (.Pass ⟨0,0,0,0⟩)
structure Bl(mg:Str→Option Value):Prop where
 n_len:mg "len"=none
 n_max:mg "max"=none
 n_abs:mg "abs"=none
 n_divmod:mg "divmod"=none
 n_list:mg "list"=none
 n_tuple:mg "tuple"=none
 n_range:mg "range"=none
 n_int:mg "int"=none
 n_str:mg "str"=none
 n_repr:mg "repr"=none
 n_isinstance:mg "isinstance"=none
 n_all:mg "all"=none
 n_set:mg "set"=none
theorem jZ{α β:Type}(f:α→β):∀ (l:List α) (i:Nat),(l.map f).eraseIdx i=(l.eraseIdx i).map f
 | [],_=>rfl
 | _::_,0=>rfl
 | x::r,i+1=>by
  show f x::(r.map f).eraseIdx i=f x::(r.eraseIdx i).map f
  rw [jZ f r i]
theorem fm{α:Type}:∀ (l:List α) (i:Nat) (h:i<l.length),(l[i]::l.eraseIdx i).Perm l
 | x::r,0,_=>XA.refl _
 | x::r,i+1,h=>by
  show (r[i]'(by simpa using h)::x::r.eraseIdx i).Perm (x::r)
  exact(XA.swap _ _ _).trans (XA.cons x (fm r i (by simpa using h)))
inductive Cm(n:Nat)(N:List Str):Prop where
 | mk:Cm n N
theorem nth(i:Nat){N:List Str}{x:Str}(h:N[i]? = some x):N[i]? = some x:=h
theorem xS{sc:Scope}{x:Str}(h:(sc.names.lookup x==some .local||sc.names.lookup x==some .cell)=true):sc.names.lookup x=some .local∨sc.names.lookup x=some .cell:=by
 rcases Bool.or_eq_true _ _ |>.mp h with h | h
 ·exact .inl (eq_of_beq h)
 ·exact .inr (eq_of_beq h)
theorem A6{N ps:List Str}{sc:Scope}{X:Cx}{x:Str}(S:aj N ps sc)(e:X.env.scope=sc)(h:sc.names.lookup x=some .globalImplicit):Gl X x:=by rw [← e] at h; exact h
theorem A2{N ps:List Str}{sc:Scope}{X:Cx}{x:Str}(S:aj N ps sc)(e:X.env.scope=sc)(h:(sc.names.lookup x==some .local||sc.names.lookup x==some .cell)=true):Loc X.env.scope x:=by rw [e]; exact xS h
theorem AK{N ps:List Str}{sc:Scope}{X:Cx}{x:Str}(S:aj N ps sc)(e:X.env.scope=sc)(h:(sc.names.lookup x==some .local||sc.names.lookup x==some .cell)=true):Vis X.env.scope x:=by rw [e]; exact(xS h).elim dn AH
theorem AI{X:Cx}{N':List Str}{scope:Scope}{cl:List (Str×Addr)}{C:Addr}{ex:List Addr}{s:Shared}{H:Hp}{x:Str}(h:scope.names.lookup x=some .local):Vis (ak X N' scope cl C ex s H).env.scope x:=zG h
theorem AJ{X:Cx}{N':List Str}{scope:Scope}{cl:List (Str×Addr)}{C:Addr}{ex:List Addr}{s:Shared}{H:Hp}{x:Str}(h:scope.names.lookup x=some .free):Vis (ak X N' scope cl C ex s H).env.scope x:=zH h
theorem A7{X:Cx}{N':List Str}{scope:Scope}{cl:List (Str×Addr)}{C:Addr}{ex:List Addr}{s:Shared}{H:Hp}{x:Str}(h:scope.names.lookup x=some .globalImplicit):Gl (ak X N' scope cl C ex s H) x:=glO h
theorem A3{N ps:List Str}{sc:Scope}{X:Cx}{x:Str}(S:aj N ps sc)(e:X.env.scope=sc)(h:sc.names.lookup x=some .local):X.env.scope.names.lookup x=some .local:=by rw [e]; exact h
theorem zY{X:Cx}{mg:Str→Option Value}{x:Str}{v:V}{u:Value}{pos:Pos}(hm:mg x=some u)(q:X.mg=mg)(r:aq v u)(hg:Gl X x)(hd:(x==("__debug__":Str))=false):PE X (.Name x pos) (tC v):=cy hg (by rw [q]; exact hm) r hd
theorem zZ{X:Cx}{P:Program}{w:World}{K:XC}{mg:Str→Option Value}{base:Heap}{x:Str}{k:Nat}{ps:List Str}{sp:Sp}{p pos:Pos}{e:Expr}{es:List Expr}{t:TA}(D:Def P w K mg base x k ps sp)(q:(X.prog,X.w,X.K,X.mg,X.base)=(P,w,K,mg,base))(hr:aI k X.A)(hg:Gl X x)(ha:PA X (e::es) t)
  (hdb:(x==("__debug__":Str))=false) (he:starEach (e::es) X.env=(false,eval e X.env)::starEach es X.env) (hpl:(backTo pos (starEach es X.env)).any (·.1)=false):PE X (.Call (.Name x p) (e::es) [] pos) (fM sp [] E0 t):=by
 cases q
 exact tN D hr hg ha hdb he hpl
theorem yK{X:Cx}{E:XK}{P:Program}{w:World}{K:XC}{mg:Str→Option Value}{base:Heap}{x:Str}{k:Nat}{ps:List Str}{sp:Sp}{p pos:Pos}{e:Expr}{es:List Expr}{t:TA}(fr:bY X)(D:aU P w K mg base x k ps sp)(q:(X.prog,X.w,X.K,X.mg,X.base)=(P,w,K,mg,base))(hr:aI k X.A)(hg:Gl X x)(ha:PA (X.exc E) (e::es) t)
  (hdb:(x==("__debug__":Str))=false) (he:starEach (e::es) X.env=(false,eval e X.env)::starEach es X.env) (hpl:(backTo pos (starEach es X.env)).any (·.1)=false):PE (X.exc E) (.Call (.Name x p) (e::es) [] pos) (fM sp [] E t):=by
 cases q
 exact pk fr D hr hg ha hdb he hpl
theorem zI{X:Cx}{E:XK}{N':List Str}{scope:Scope}{cl:List (Str×Addr)}{C:Addr}{ex:List Addr}{s:Shared}{H:Hp}{x:Str}(h:scope.names.lookup x=some .local):Vis ((ak X N' scope cl C ex s H).exc E).env.scope x:=zG h
theorem zJ{X:Cx}{E:XK}{N':List Str}{scope:Scope}{cl:List (Str×Addr)}{C:Addr}{ex:List Addr}{s:Shared}{H:Hp}{x:Str}(h:scope.names.lookup x=some .free):Vis ((ak X N' scope cl C ex s H).exc E).env.scope x:=zH h
theorem Ar{X:Cx}{E:XK}{N':List Str}{scope:Scope}{cl:List (Str×Addr)}{C:Addr}{ex:List Addr}{s:Shared}{H:Hp}{x:Str}(h:scope.names.lookup x=some .globalImplicit):Gl ((ak X N' scope cl C ex s H).exc E) x:=glO h
theorem zba{X:Cx}{E:XK}{N':List Str}{scope:Scope}{cl:List (Str×Addr)}{C:Addr}{ex:List Addr}{s:Shared}{H:Hp}(h:N'.Nodup):((ak X N' scope cl C ex s H).exc E).N.Nodup:=h
theorem Bg{N ps:List Str}{sc:Scope}{X:Cx}{n:Nat}{N':List Str}{scope:Scope}(_:Cm n N')(S:aj N ps sc)(e:X.env.scope=sc)(f:X.N=N)(h:oP n N' N sc scope):aE n N' X scope:=by
 subst e
 subst f
 exact h.at
theorem zbb{X:Cx}{N':List Str}{scope:Scope}{cl:List (Str×Addr)}{C:Addr}{ex:List Addr}{s:Shared}{H:Hp}(h:N'.Nodup):(ak X N' scope cl C ex s H).N.Nodup:=h
inductive Hn(k l c e:Nat):Prop where
 | mk:Hn k l c e
theorem af(k l c e:Nat):Hn k l c e:=.mk
inductive Hc(l c e n:Nat)(N:List Str):Prop where
 | mk:Hc l c e n N
theorem bG(l c e n:Nat)(N:List Str):Hc l c e n N:=.mk
theorem gE(k:Nat){X:Cx}{e:Expr}{t:TE}(_:Hn k e.pos.line e.pos.col e.pos.endCol)(d:PE X e t):PE X e t:=d
theorem gT(k:Nat){X:Cx}{e:Expr}{t:TT}(_:Hn k e.pos.line e.pos.col e.pos.endCol)(d:PT X e t):PT X e t:=d
theorem gS(k:Nat){X:Cx}{e:Stmt}{t:TS}(_:Hn k e.pos.line e.pos.col e.pos.endCol)(d:PS X e t):PS X e t:=d
theorem gI(k:Nat){X:Cx}{g e:Expr}{t:TI}(_:Hn k e.pos.line e.pos.col e.pos.endCol)(d:PI X g e t):PI X g e t:=d
theorem gG(k:Nat){X:Cx}{e:Expr}{t:TG}(_:Hn k e.pos.line e.pos.col e.pos.endCol)(d:PG X e t):PG X e t:=d
theorem gC{X:Cx}{e:Expr}{t:TE}{n:Nat}{N:List Str}(_:Hc e.pos.line e.pos.col e.pos.endCol n N)(d:Cm n N→PE X e t):PE X e t:=d .mk
theorem gD{X:Cx}{e:Stmt}{t:TS}{n:Nat}{N:List Str}(_:Hc e.pos.line e.pos.col e.pos.endCol n N)(d:Cm n N→PS X e t):PS X e t:=d .mk
local macro_rules | `(tactic| walk_at "R")=>`(tactic| (exact ‹aI _ _›.mono (by first | decide | omega)))
local macro_rules | `(tactic| walk_at "T")=>`(tactic| (exact ‹aj _ _ _›.nd))
local macro_rules | `(tactic| walk_at "U")=>`(tactic| ((case S=>walk_at "C");(case o1=>exact bq);(case o2=>rfl);walk_at "I"))
local macro_rules | `(tactic| walk_at "A")=>`(tactic| ((case g=>walk_at "b");(case m=>walk_at "z");(case a=>walk_at "a");(case n=>decide +kernel);(case d=>decide +kernel);(case e=>rfl);case f=>rfl))
local macro_rules | `(tactic| walk_at "D")=>`(tactic| ((case a=>walk_at "e");(case b=>walk_at "e");case c=>walk_at "m"))
local macro_rules | `(tactic| walk_at "M")=>`(tactic| ((case a=>walk_at "e");(case b=>walk_at "a");(case c=>rfl);(case d=>rfl);(case e=>rfl);(case f=>rfl);case g=>rfl))
local macro_rules | `(tactic| walk_at "E")=>`(tactic| ((case d=>rfl);(case a=>walk_at "b");(case b=>walk_at "z");(case e=>decide +kernel);case f=>decide +kernel))
local macro_rules | `(tactic| walk_at "N")=>`(tactic| ((case c=>walk_at "b");(case d=>walk_at "a");(case e=>decide +kernel);(case f=>rfl);case g=>rfl))
local macro_rules | `(tactic| walk_at "I")=>`(tactic| ((case i=>walk_at "i");(case g=>intro _ _ _ _ _;walk_at "q");(case e=>intro _ _ _ _ _;walk_at "e")))
local macro_rules | `(tactic| walk_at "B")=>`(tactic| ((case a=>walk_at "e");case b=>walk_at "e"))
local macro_rules | `(tactic| walk_at "J")=>`(tactic| (case a=>walk_at "e"))
local macro_rules | `(tactic| walk_at "k")=>`(tactic| (case h=>decide +kernel))
local macro_rules | `(tactic| walk_at "S")=>`(tactic| first | with_reducible exact fU |((with_reducible refine' ba ?a);case a=>walk_at "s")|((with_reducible refine' cD ?a ?b);(case a=>walk_at "s");case b=>walk_at "S"))
local macro_rules | `(tactic| walk_at "s0")=>`(tactic| first
 | with_reducible exact ps_retN
 |((with_reducible refine' iO ?a);walk_at "J")
 |((with_reducible refine' iQ ?a ?b ?c);(case a=>walk_at "t");(case b=>walk_at "S");case c=>walk_at "S")
 |((with_reducible refine' iN ?s0 ?a ?b ?c ?d ?e);(case s0=>walk_at "T");(case a=>walk_at "n");(case b=>walk_at "l");(case c=>walk_at "e");(case d=>rfl);case e=>exact .inl rfl)
 |((with_reducible refine' ib ?a ?b);(walk_at "J");case b=>rfl)
 |((with_reducible refine' sY ?p0 ?a ?b);(case p0=>exact PassesOwn.never);(case a=>walk_at "t");case b=>walk_at "S")
 |((with_reducible refine' yB ?s0 ?a ?b ?c ?d ?e);(case s0=>walk_at "T");(case a=>walk_at "n");(case b=>walk_at "l");(case c=>walk_at "e");(case d=>(first | with_reducible exact uQ | exact uP));case e=>exact .inl rfl)
 |((with_reducible refine' yz ?p0 ?r0 ?a ?b ?c ?d);(case p0=>(first | exact PassesOwn.never | exact jH));(case r0=>rfl);(case a=>walk_at "i");(case b=>walk_at "g");(case c=>walk_at "S");case d=>intro _;rfl)
 |((with_reducible refine' vZ ?a ?b uX ?c ?d lE ?h0);(case h0=>intros;rfl);(walk_at "J");(case b=>walk_at "e");(case c=>walk_at "e");case d=>(first | with_reducible exact uQ | exact uP))
 |((with_reducible refine' yx ?r0 ?s0 ?a ?b ?j0 ?c ?d ?e ?k0 ?f);(case r0=>rfl);(case s0=>walk_at "T");(case a=>walk_at "n");(case b=>walk_at "n");(case j0=>decide);(case c=>walk_at "L");(case d=>walk_at "L");(case e=>walk_at "a");(case k0=>rfl);case f=>rfl)
 |((with_reducible refine' yA ?a ?b ?c);(walk_at "J");(case b=>walk_at "e");case c=>rfl)
 |((with_reducible refine' iP ?f ?r0 ?o ?g ?a ?d ?e ?h);(case o=>assumption);(case f=>exact bq);(case r0=>rfl);(case g=>walk_at "b");(case a=>walk_at "a");(case d=>decide +kernel);(case e=>rfl);case h=>rfl)
 | with_reducible exact tf (st:=.Raise _ _ _)
 |((with_reducible refine' yC ?a ?b ?c ?d ?e);(walk_at "J");(case b=>walk_at "g");(case c=>rfl);(case d=>rfl);case e=>rfl))
local macro_rules | `(tactic| walk_at "n")=>`(tactic| first | exact nth 0 rfl | exact nth 1 rfl | exact nth 2 rfl | exact nth 3 rfl | exact nth 4 rfl | exact nth 5 rfl | exact nth 6 rfl | exact nth 7 rfl | exact nth 8 rfl | exact nth 9 rfl | exact nth 10 rfl | exact nth 11 rfl | exact nth 12 rfl | exact nth 13 rfl | exact nth 14 rfl | exact nth 15 rfl)
local macro_rules | `(tactic| walk_at "l")=>`(tactic| refine' A2 ?S ?e ?h;(case S=>assumption);(case e=>rfl);walk_at "k")
local macro_rules | `(tactic| walk_at "v")=>`(tactic| first |((with_reducible refine' AI ?h);walk_at "k")|((with_reducible refine' AJ ?h);walk_at "k")|((with_reducible refine' zI ?h);walk_at "k")|((with_reducible refine' zJ ?h);walk_at "k")|((with_reducible refine' AK ?S ?e ?h);(case S=>assumption);(case e=>rfl);walk_at "k"))
local macro_rules | `(tactic| walk_at "b")=>`(tactic| first |((with_reducible refine' A7 ?h);walk_at "k")|((with_reducible refine' Ar ?h);walk_at "k")|((with_reducible refine' A6 ?S ?e ?h);(case S=>assumption);(case e=>rfl);walk_at "k"))
local macro_rules | `(tactic| walk_at "z")=>`(tactic| first | exact ‹Bl _›.n_len | exact ‹Bl _›.n_tuple | exact ‹Bl _›.n_list | exact ‹Bl _›.n_range | exact ‹Bl _›.n_isinstance | exact ‹Bl _›.n_str | exact ‹Bl _›.n_repr | exact ‹Bl _›.n_max | exact ‹Bl _›.n_abs | exact ‹Bl _›.n_divmod | exact ‹Bl _›.n_int | exact ‹Bl _›.n_all | exact ‹Bl _›.n_set | assumption)
local macro_rules | `(tactic| walk_at "e0")=>`(tactic| first
 | with_reducible (first | exact ei | exact eh | exact xP | exact tH)
 |((with_reducible first | refine' eJ (x:=Str.ofString "str") (v:=V.ty "str") ?a ?b vp ?d ?e ?f | refine' eJ (x:=Str.ofString "list") (v:=V.ty "list") ?a ?b pT ?d ?e ?f | refine' eJ (x:=Str.ofString "tuple") (v:=V.ty "tuple") ?a ?b mP ?d ?e ?f | refine' eJ (x:=Str.ofString "int") (v:=V.ty "int") ?a ?b vt ?d ?e ?f | refine' eJ (x:=Str.ofString "dict") (v:=V.ty "dict") ?a ?b pU ?d ?e ?f);walk_at "E")
 |((with_reducible refine' zY ?b ?q ?c ?a ?d);(case b=>with_reducible assumption);(case q=>rfl);(case c=>assumption);(case a=>walk_at "b");case d=>decide +kernel)
 |((with_reducible refine' tE ?a ?b ?c ?d);(case a=>walk_at "n");(case b=>walk_at "v");(case c=>decide +kernel);case d=>decide +kernel)
 |((with_reducible refine' fV ix_list ?a ?b ?r0);(case r0=>intro _ _;rfl);walk_at "B")
 |((with_reducible refine' iR sl_list ?a ?b ?c);(walk_at "J");(case b=>walk_at "p");case c=>walk_at "p")
 |((with_reducible refine' lM ?o ?a ?b);(case o=>(with_reducible first | exact yT | exact yM | exact yP | exact wE | exact yQ | exact yO));walk_at "B")
 |((with_reducible refine' dj ?o ?a ?b ?c);(case o=>walk_at "c");walk_at "D")
 |((with_reducible refine' kI ?a);case a=>walk_at "a")
 |((with_reducible refine' kH ?a);case a=>walk_at "a")
 |((with_reducible refine' zZ ?a ?r0 ?b ?c ?d ?e ?f ?g);(case a=>with_reducible assumption);(case r0=>rfl);(case b=>walk_at "R");walk_at "N")
 |((with_reducible refine' yK ?o0 ?a ?r0 ?b ?c ?d ?e ?f ?g);(case a=>with_reducible assumption);(case o0=>(first | exact bq | exact mE bq));(case r0=>rfl);(case b=>walk_at "R");walk_at "N")
 |((with_reducible refine' wm ?a ?b ?c ?d ?e ?f ?y0 ?z0 ?g ?h ?i ?j);(case e=>assumption);(case a=>assumption);(case b=>assumption);(case c=>walk_at "R");(case d=>walk_at "b");(case f=>assumption);(case y0=>exact .nil);(case z0=>exact tR);(case g=>walk_at "a");(walk_at "k");(case i=>rfl);case j=>rfl)
 |((with_reducible refine' bo ?c ?g ?m ?v ?a ?n ?d ?e ?f);(case v=>(with_reducible first | exact ji | exact pS | exact vq | exact zy | exact rA | exact zx));(case c=>(first | with_reducible exact dU | exact rk rfl | with_reducible (first | exact vo | exact mO) | exact rz rfl | exact call_reprD ‹aI _ _›));walk_at "A")
 |((with_reducible refine' qC ?c ?g ?m ?v ?a ?n ?d ?e ?f);(case v=>(with_reducible first | exact mP | exact pT | exact vt | exact vp | exact zu | exact bt_range | exact pU));(case c=>(first | with_reducible (first | exact jp | exact kX | exact rq | exact call_str_int) | exact rh rfl | with_reducible (first | exact call_range1 | exact oG)));walk_at "A")
 |((with_reducible refine' yJ ?a ?r0);(case r0=>rfl);walk_at "J")
 |((with_reducible refine' tF m7 ?a);walk_at "J")
 |((with_reducible refine' tQ (name:=Str.ofString "pop") ?o1 ?o2 ?o3 ?o4 ?a ?b ?c);(case o1=>exact PySem.F.plainAttrs_list);(case o2=>exact PySem.F.slot_list_pop);(case o3=>exact PySem.F.type_list_pop);(case o4=>exact uC);(walk_at "J");(case b=>rfl);case c=>rfl)
 |((with_reducible refine' jG (name:=Str.ofString "append") ?o1 ?o2 ?o3 ?o4 ?a ?b ?c ?d ?e ?f ?g);(case o1=>exact PySem.F.plainAttrs_list);(case o2=>exact PySem.F.slot_list_append);(case o3=>exact PySem.F.type_list_append);(case o4=>exact eK);walk_at "M")
 |((with_reducible refine' jG (name:=Str.ofString "pop") ?o1 ?o2 ?o3 ?o4 ?a ?b ?c ?d ?e ?f ?g);(case o1=>exact PySem.F.plainAttrs_list);(case o2=>exact PySem.F.slot_list_pop);(case o3=>exact PySem.F.type_list_pop);(case o4=>exact uB);walk_at "M")
 |((with_reducible refine' tI ?a ?o1 ?m ?f ?b ?d ?o3 ?o2 ?c);(case m=>assumption);(case o1=>walk_at "K");(case o2=>exact tR);(case o3=>exact .nil);(case f=>assumption);(case d=>assumption);(walk_at "J");(case b=>walk_at "R");case c=>rfl)
 | with_reducible exact tK
 |((with_reducible refine' tM ?h ?a ?b ?m);(case h=>exact eU ‹aI _ _›);(walk_at "J");(case b=>walk_at "e");case m=>exact⟨rfl,rfl,rfl,rfl⟩)
 |((with_reducible refine' tJ ?a ?b ?c);(case a=>walk_at "t");(case b=>walk_at "e");case c=>walk_at "e")
 |((with_reducible refine' pe_disp ?a ?r1 ?r2 ?r3 ?r4);(case a=>walk_at "P");(case r1=>rfl);(case r2=>rfl);(case r3=>simp);case r4=>decide)
 |((with_reducible refine' tG ?a);walk_at "J")
 |((with_reducible refine' yI ?a);walk_at "J")
 |((with_reducible refine' yL ?a ?b);walk_at "B")
 |((with_reducible refine' zX ?a ?b);walk_at "B"))
local macro_rules | `(tactic| walk_at "c")=>`(tactic| first | with_reducible (first | exact tU | exact tS | exact z5 | exact z7 | exact z8 | exact op_ge | exact qE | exact kJ | exact yR | exact wy))
local macro_rules | `(tactic| walk_at "m")=>`(tactic| first | exact iV _ | with_unfolding_all rfl)
local macro_rules | `(tactic| walk_at "p")=>`(tactic| first | with_reducible exact we |((with_reducible refine' wc ?a);walk_at "J"))
local macro_rules | `(tactic| walk_at "a")=>`(tactic| first | with_reducible exact be | exact wx (by (constructor;constructor;constructor;repeat constructor))|((with_reducible refine' aw ?a ?b ?c);(walk_at "J");(case b=>walk_at "a");case c=>rfl))
local macro_rules | `(tactic| walk_at "t0")=>`(tactic| first
 |((with_reducible refine' sW ?o ?p ?a ?b ?c ?d);(case o=>walk_at "c");(case p=>walk_at "c");(walk_at "J");(case b=>walk_at "e");(case c=>walk_at "e");case d=>with_unfolding_all rfl)
 |((with_reducible refine' PW.pt (e:=.BoolOp _ _ _) ?a);case a=>walk_at "w")
 |((with_reducible refine' kF ?a);case a=>walk_at "t")
 |((with_reducible refine' bW ?o ?a ?b ?c);(case o=>walk_at "c");walk_at "D")
 |((with_reducible refine' nO ?a ?b);(walk_at "J");case b=>intro _;rfl))
local macro_rules | `(tactic| walk_at "w")=>`(tactic| first |((with_reducible refine' nN ?a);case a=>walk_at "t")|((with_reducible refine' vS ?a);case a=>walk_at "t")|((with_reducible refine' sV ?a ?b);(case a=>walk_at "t");case b=>walk_at "w")|((with_reducible refine' yv ?a ?b);(case a=>walk_at "t");case b=>walk_at "w"))
local macro_rules | `(tactic| walk_at "i0")=>`(tactic| first
 |((with_reducible refine' qA ?a ?b ?c ?d);(case a=>walk_at "b");(case b=>walk_at "z");(case c=>walk_at "a");case d=>rfl)
 |((with_reducible refine' wf ?a ?b ?c ?d ?e);(case a=>walk_at "b");(case b=>walk_at "z");(case c=>walk_at "a");(case d=>rfl);case e=>rfl)
 |((with_reducible refine' pi ?a);walk_at "J"))
local macro_rules | `(tactic| walk_at "g0")=>`(tactic| first
 |((with_reducible refine' kG ?s0 ?a ?b ?c);(case s0=>walk_at "T");(case a=>walk_at "n");(case b=>walk_at "l");case c=>exact .inl rfl)
 |((with_reducible refine' yG ?a ?b lE ?c);(walk_at "J");(case b=>walk_at "e");case c=>intro _;rfl)
 |((with_reducible refine' wj ?r0 ?a ?b ?c ?d);(case r0=>rfl);(case a=>walk_at "G");(case b=>rfl);(case c=>rfl);case d=>rfl)
 |((with_reducible refine' nR ?r0 ?a ?b ?c);(case r0=>rfl);(case a=>walk_at "G");(case b=>rfl);case c=>rfl))
local macro_rules | `(tactic| walk_at "G")=>`(tactic| first | with_reducible exact pj |((with_reducible refine' lL ?a ?b ?c);(case a=>walk_at "g");(case b=>walk_at "G");case c=>rfl))
local macro_rules | `(tactic| walk_at "L")=>`(tactic| refine' A3 ?S ?e ?h;(case S=>assumption);(case e=>rfl);walk_at "k")
local macro_rules | `(tactic| walk_at "P")=>`(tactic| first | with_reducible exact pps_nil |((with_reducible refine' pps_cons ?a ?b ?c);(walk_at "J");(case b=>walk_at "e");case c=>walk_at "P"))
local macro_rules | `(tactic| walk_at "S1")=>`(tactic| refine' ba ?a;case a=>walk_at "s")
local macro_rules | `(tactic| walk_at "S2")=>`(tactic| refine' cD ?a ?b;(case a=>walk_at "s");case b=>walk_at "S")
local macro_rules | `(tactic| walk_at "s")=>`(tactic| first
 |((with_reducible refine' gS 19 ?hh ?_);(case hh=>assumption);(with_reducible refine' gD ?hh ?_);(case hh=>assumption);intro _;((with_reducible refine' yy ?w);case w=>((with_reducible refine' gQ ?o1 ?a ?b ?o3 ?o2 ?o4 ?S ?i ?g ?c ?e ?h ?j);(case S=>walk_at "C");(case o1=>walk_at "T");(case o2=>exact bq);(case o3=>rfl);(case o4=>rfl);(case a=>walk_at "n");(case b=>walk_at "l");(case i=>walk_at "i");(case g=>intro _ _ _ _ _;walk_at "q");(case c=>intro _ _ _ _ _;walk_at "t");(case e=>intro _ _ _ _ _;walk_at "e");(case h=>intro _;rfl);case j=>exact .inl rfl)))
 |((with_reducible refine' gD ?hh ?_);(case hh=>assumption);intro _;((with_reducible refine' nP ?o1 ?a ?b ?o3 ?o2 ?o4 ?S ?i ?g ?e ?h ?j);(case S=>walk_at "C");(case o1=>walk_at "T");(case o2=>exact Ak);(case o3=>rfl);(case o4=>rfl);(case a=>walk_at "n");(case b=>walk_at "l");walk_at "I";(case h=>intro _;rfl);case j=>exact .inl rfl))
 |((with_reducible refine' gS 15 ?hh ?_);(case hh=>assumption);(with_reducible refine' vY ?o1 ?a ?b ?c ?o2);(case o1=>exact eU ‹aI _ _›);(case o2=>rfl);(walk_at "J");(case b=>walk_at "e");case c=>walk_at "e")
 |((with_reducible refine' gD ?hh ?_);(case hh=>assumption);intro _;((with_reducible refine' gQ ?o1 ?a ?b ?o3 ?o2 ?o4 ?S ?i ?g ?c ?e ?h ?j);(case S=>walk_at "C");(case o1=>walk_at "T");(case o2=>exact bq);(case o3=>rfl);(case o4=>rfl);(case a=>walk_at "n");(case b=>walk_at "l");(case i=>walk_at "i");(case g=>intro _ _ _ _ _;walk_at "q");(case c=>intro _ _ _ _ _;walk_at "t");(case e=>intro _ _ _ _ _;walk_at "e");(case h=>intro _;rfl);case j=>exact .inl rfl))
 | walk_at "s0")
local macro_rules | `(tactic| walk_at "e")=>`(tactic| first
 |((with_reducible refine' gC ?hh ?_);(case hh=>assumption);intro _;((with_reducible refine' wu ?o1 ?o2 ?S ?i ?g ?e ?h);(case S=>walk_at "C");(case o1=>exact Ak);(case o2=>rfl);walk_at "I";case h=>intro _;rfl))
 |((with_reducible refine' gE 1 ?hh ?_);(case hh=>assumption);(with_reducible refine' bo ?o1 ?g ?m bR ?a ?n ?d ?e ?f);(case o1=>exact(rp (T:="list") (U:="tuple")));walk_at "A")
 |((with_reducible refine' gE 2 ?hh ?_);(case hh=>assumption);(with_reducible refine' bo ?o1 ?g ?m bR ?a ?n ?d ?e ?f);(case o1=>exact(rn (T:="str")));walk_at "A")
 |((with_reducible refine' gE 3 ?hh ?_);(case hh=>assumption);(with_reducible refine' dj jI ?a ?b ?c);walk_at "D")
 |((with_reducible refine' gE 4 ?hh ?_);(case hh=>assumption);(with_reducible refine' bo kY ?g ?m ji ?a ?n ?d ?e ?f);walk_at "A")
 |((with_reducible refine' gE 7 ?hh ?_);(case hh=>assumption);(with_reducible refine' bo rm ?g ?m ji ?a ?n ?d ?e ?f);walk_at "A")
 |((with_reducible refine' gE 10 ?hh ?_);(case hh=>assumption);(with_reducible refine' fV ix_tup ?a ?b ?o1);(case o1=>intro _ _;rfl);walk_at "B")
 |((with_reducible refine' gE 11 ?hh ?_);(case hh=>assumption);(with_reducible refine' lM tV ?a ?b);walk_at "B")
 |((with_reducible refine' gE 13 ?hh ?_);(case hh=>assumption);(with_reducible refine' lM nU ?a ?b);walk_at "B")
 |((with_reducible refine' gE 14 ?hh ?_);(case hh=>assumption);(with_reducible refine' jG ?o1 ?o2 ?o3 ?o4 ?a ?b ?c ?d ?e ?f ?g);(case o1=>exact PySem.F.plainAttrs_str);(case o2=>exact PySem.F.slot_str_join);(case o3=>exact PySem.F.type_str_join);(case o4=>exact w4);walk_at "M")
 |((with_reducible refine' gE 16 ?hh ?_);(case hh=>assumption);(with_reducible refine' dj ?o1 ?a ?b ?c);(case o1=>exact(pB ‹aI _ _›.units0));walk_at "D")
 |((with_reducible refine' gE 17 ?hh ?_);(case hh=>assumption);(with_reducible refine' wo ?o2 ?a ?b ?o1);(case o1=>intro _ _;rfl);(case o2=>exact eU ‹aI _ _›);walk_at "B")
 |((with_reducible refine' gE 21 ?hh ?_);(case hh=>assumption);(with_reducible refine' dj ?o1 ?a ?b ?c);(case o1=>exact(lO (eU ‹aI _ _›)));walk_at "D")
 |((with_reducible refine' gE 23 ?hh ?_);(case hh=>assumption);(with_reducible refine' lM yN ?a ?b);walk_at "B")
 |((with_reducible refine' gE 24 ?hh ?_);(case hh=>assumption);(with_reducible refine' dj ?o1 ?a ?b ?c);(case o1=>exact(pA ‹aI _ _›.units0));walk_at "D")
 |((with_reducible refine' gE 25 ?hh ?_);(case hh=>assumption);(with_reducible refine' lM yS ?a ?b);walk_at "B")
 |((with_reducible refine' gE 27 ?hh ?_);(case hh=>assumption);(with_reducible refine' fV ze ?a ?b ?o1);(case o1=>intro _ _;rfl);walk_at "B")
 |((with_reducible refine' gC ?hh ?_);(case hh=>assumption);intro _;((with_reducible refine' tP ?o1 ?o2 ?S ?i ?g ?e ?h);walk_at "U";case h=>intro _;rfl))
 |((with_reducible refine' gC ?hh ?_);(case hh=>assumption);intro _;((with_reducible refine' tO ?o1 ?o2 ?S ?i ?g ?e ?f ?h);walk_at "U";(case f=>intro _ _ _ _ _;walk_at "e");case h=>intro _;rfl))
 |((with_reducible refine' gE 29 ?hh ?_);(case hh=>assumption);(with_reducible refine' fV uM ?a ?b ?o1);(case o1=>intro _ _;rfl);walk_at "B")
 |((with_reducible refine' gE 30 ?hh ?_);(case hh=>assumption);(with_reducible refine' dj fW ?a ?b ?c);walk_at "D")
 |((with_reducible refine' gE 31 ?hh ?_);(case hh=>assumption);(with_reducible refine' iR yj ?a ?b ?c);(walk_at "J");(case b=>walk_at "p");case c=>walk_at "p")
 |((with_reducible refine' gE 34 ?hh ?_);(case hh=>assumption);(with_reducible refine' iR ym ?a ?b ?c);(walk_at "J");(case b=>walk_at "p");case c=>walk_at "p")
 |((with_reducible refine' gE 35 ?hh ?_);(case hh=>assumption);(with_reducible refine' dj ?o1 ?a ?b ?c);(case o1=>exact(pz (eU ‹aI _ _›)));walk_at "D")
 |((with_reducible refine' gE 37 ?hh ?_);(case hh=>assumption);(with_reducible refine' bo ?o1 ?g ?m vq ?a ?n ?d ?e ?f);(case o1=>exact(rj rfl));walk_at "A")
 |((with_reducible refine' gE 38 ?hh ?_);(case hh=>assumption);(with_reducible refine' dj ?o1 ?a ?b ?c);(case o1=>exact(tT (eU ‹aI _ _›)));walk_at "D")
 |((with_reducible refine' gE 40 ?hh ?_);(case hh=>assumption);(with_reducible refine' bo ?o1 ?g ?m pS ?a ?n ?d ?e ?f);(case o1=>exact(oB ‹aI _ _›));walk_at "A")
 | walk_at "e0")
local macro_rules | `(tactic| walk_at "t")=>`(tactic| first
 |((with_reducible refine' gT 6 ?hh ?_);(case hh=>assumption);(with_reducible refine' bW jI ?a ?b ?c);walk_at "D")
 |((with_reducible refine' gT 20 ?hh ?_);(case hh=>assumption);(with_reducible refine' bW ?o1 ?a ?b ?c);(case o1=>exact(pB ‹aI _ _›.units0));walk_at "D")
 |((with_reducible refine' gT 22 ?hh ?_);(case hh=>assumption);(with_reducible refine' bW ?o1 ?a ?b ?c);(case o1=>exact(lO (eU ‹aI _ _›)));walk_at "D")
 |((with_reducible refine' gT 26 ?hh ?_);(case hh=>assumption);(with_reducible refine' bW ?o1 ?a ?b ?c);(case o1=>exact(pA ‹aI _ _›.units0));walk_at "D")
 |((with_reducible refine' gT 28 ?hh ?_);(case hh=>assumption);(with_reducible refine' yw ?x ?y);(case x=>refine' qD (eU ‹aI _ _›) ?a ?b;walk_at "B");case y=>with_unfolding_all rfl)
 |((with_reducible refine' gT 32 ?hh ?_);(case hh=>assumption);(with_reducible refine' bW fW ?a ?b ?c);walk_at "D")
 |((with_reducible refine' gT 36 ?hh ?_);(case hh=>assumption);(with_reducible refine' bW ?o1 ?a ?b ?c);(case o1=>exact(pz (eU ‹aI _ _›)));walk_at "D")
 |((with_reducible refine' gT 39 ?hh ?_);(case hh=>assumption);(with_reducible refine' bW ?o1 ?a ?b ?c);(case o1=>exact(tT (eU ‹aI _ _›)));walk_at "D")
 | walk_at "t0")
local macro_rules | `(tactic| walk_at "i")=>`(tactic| first
 |((with_reducible refine' gI 5 ?hh ?_);(case hh=>assumption);(with_reducible refine' yE ?a);walk_at "J")
 |((with_reducible refine' gI 8 ?hh ?_);(case hh=>assumption);(with_reducible refine' yF ?a);walk_at "J")
 |((with_reducible refine' gI 12 ?hh ?_);(case hh=>assumption);(with_reducible refine' tw ?a);walk_at "J")
 |((with_reducible refine' gI 18 ?hh ?_);(case hh=>assumption);(with_reducible refine' wg ?a);walk_at "J")
 |((with_reducible refine' gI 33 ?hh ?_);(case hh=>assumption);(with_reducible refine' tD ?a ?b ?c ?d);(case a=>walk_at "b");(case b=>walk_at "z");(case c=>walk_at "a");case d=>rfl)
 | walk_at "i0")
local macro_rules | `(tactic| walk_at "g")=>`(tactic| first
 |((with_reducible refine' gG 9 ?hh ?_);(case hh=>assumption);(with_reducible refine' yH ?o1 ?a ?b ?c);(case o1=>rfl);(case a=>walk_at "G");(case b=>rfl);case c=>rfl)
 | walk_at "g0")
local macro_rules | `(tactic| walk_at "C")=>`(tactic| refine' Bg ?C ?S ?e ?f ?h;(case C=>assumption);(case S=>assumption);(case e=>rfl);(case f=>rfl);case h=>exact⟨rfl,by decide +kernel,by decide +kernel,by decide +kernel,by decide +kernel,rfl,by decide +kernel⟩)
local macro_rules | `(tactic| walk_at "F")=>`(tactic| exact⟨rfl,rfl,rfl,by decide +kernel,rfl,by decide +kernel,by decide +kernel⟩)
local macro_rules | `(tactic| walk_at "q")=>`(tactic| first |((with_reducible refine' kG ?s ?a ?b ?c);(case a=>walk_at "n");(case s=>(first | (refine' zbb ?h;walk_at "k") | (refine' zba ?h;walk_at "k")));(case b=>exact A1 (by decide +kernel));case c=>exact .inr (lookup_relabel_local (by decide +kernel))) | (refine' nR ?r ?y ?z ?x;(case r=>rfl);(case y=>walk_at "Q");(case z=>rfl);case x=>rfl))
local macro_rules | `(tactic| walk_at "Q")=>`(tactic| first | with_reducible exact pj |((with_reducible refine' lL ?a ?b ?c);(case a=>walk_at "q");(case b=>walk_at "Q");case c=>rfl))
section
inductive spCell(vs:List V)(H:Hp)(Q:VK)(e3_:XK):Prop | mk (a:Addr) (ns:List Int) (k:Nat) (_:vs=[.ref a,.int k]) (_:SqL K H a (ns.map V.int)) (_:∀ n,Q (.int n) H)
abbrev fh:Stmt:=top 44
theorem zbc:aj lC2 lC2 (ag fh):=by walk_at "F"
theorem wT(F:ah K mg "_law_cell" fh lC2)(Z:Bl mg):Def P w K mg base "_law_cell" 1 lC2 (spCell (K:=K)):=by
 have SC:=zbc
 refine F.mk' (k:=0) zbc (fun vs H Q E h=>?_) (fun f cdv A outer s H vs Q E hr h=>?_)
 ·obtain⟨a,ns,k,rfl,_⟩:=h
  rfl
 ·obtain⟨a,ns,k,rfl,hS,q⟩:=h
  refine'⟨_,?dv,?_⟩
  case dv=>(walk_at "S2")
  refine⟨_,rfl,_,rfl,a,_,rfl,.inl hS,_,_,rfl,rfl,_,rfl,?_⟩
  refine zf (fun hc=>?_) (fun hc=>q 0)
  have hc:(k:Int)<((ns.map V.int).length:Int):=of_decide_eq_true hc
  rw [Yh] at hc
  have hk:k<ns.length:=by omega
  refine⟨_,rfl,_,rfl,a,_,_,_,rfl,rfl,hS,gj (v:=V.int ns[k]) (by simp [hk]),q _⟩
def bJ(H:Hp)(p:Addr):Prop:=∃ a b c:Int,H p=some (.lst [.int a,.int b,.int c])∧0≤a∧0≤b∧b<4294967296
inductive spPot(vs:List V)(H:Hp)(Q:VK)(e3_:XK):Prop | mk (n:Int) (_:vs=[.int n]) (_:∀ p H',H p=none→bJ H' p→Same H H'→Q (.ref p) H')
abbrev gv:Stmt:=top 45
theorem zbd:aj lC8 lC8 (ag gv):=by walk_at "F"
theorem yZ(F:ah K mg "_law_pot" gv lC8)(Z:Bl mg):Def P w K mg base "_law_pot" 1 lC8 spPot:=by
 have SC:=zbd
 refine F.mk' (k:=0) zbd (fun vs H Q E h=>?_) (fun f cdv A outer s H vs Q E hr h=>?_)
 ·obtain⟨n,rfl,_⟩:=h
  rfl
 ·obtain⟨n,rfl,q⟩:=h
  refine'⟨_,?dv,?_⟩
  case dv=>(walk_at "S1")
  refine⟨_,rfl,_,rfl,_,_,rfl,rfl,⟨by decide,by decide,by decide⟩,_,_,rfl,rfl,_,_,rfl,?_⟩
  refine⟨_,rfl,_,rfl,_,_,rfl,rfl,(by show (0:Int)<2147483629; decide),_,_,rfl,rfl,(by show 3≤sizeLine; decide),fun p hp=>?_⟩
  refine q p _ hp ⟨_,_,_,aa,?_,?_,?_⟩ (ad hp _)
  ·split <;> omega
  ·have:=Int.emod_nonneg (if n<0 then -n else n) (b:=2147483629) (by decide)
   omega
  ·have:=Int.emod_lt_of_pos (if n<0 then -n else n) (b:=2147483629) (by decide)
   omega
inductive spDraw(vs:List V)(H:Hp)(Q:VK)(e3_:XK):Prop | mk (p:Addr) (m:Int) (_:vs=[.ref p,.int m]) (_:bJ H p) (_:0<m) (_:m<100000) (_:∀ (r:Int) H',0≤r→r<m→bJ H' p→ax p H H'→Q (.int r) H')
abbrev fg:Stmt:=top 46
theorem zbe:aj ["_law_pot_here","_law_many","_law_digit"] lA6 (ag fg):=by walk_at "F"
theorem wS(F:ah K mg "_law_draw" fg lA6)(Z:Bl mg):Def P w K mg base "_law_draw" 1 lA6 spDraw:=by
 have SC:=zbe
 refine F.mk' (k:=0) zbe (fun vs H Q E h=>?_) (fun f cdv A outer s H vs Q E hr h=>?_)
 ·obtain⟨p,m,rfl,_⟩:=h
  rfl
 ·obtain⟨p,m,rfl,⟨a,b,c,hp,ha,hb,hb2⟩,hm,hm2,q⟩:=h
  refine'⟨_,?dv,?_⟩
  case dv=>(walk_at "S2")
  refine⟨_,rfl,p,_,_,_,rfl,rfl,SqL.of hp,rfl,_,_,rfl,rfl,_,rfl,?_⟩
  refine zf (fun hc=>?_) (fun hc=>?_)
  ·refine⟨_,rfl,p,_,_,_,rfl,rfl,SqL.of hp,rfl,_,rfl,_,_,rfl,⟨hm,by omega⟩,fun t ht=>?_⟩
   have npt:p≠t:=ae hp ht
   refine⟨t,_,rfl,SqT.of aa,rfl,_,_,rfl,_,rfl,p,_,_,_,rfl,rfl,(by rw [ac npt]; exact hp),rfl,_,_,rfl,⟨rfl,_,rfl,?_⟩⟩
   refine q _ _ (Int.emod_nonneg _ (by omega)) (Int.emod_lt_of_pos _ hm) ⟨_,_,_,aa,Int.ediv_nonneg ha (by omega),hb,hb2⟩ (fun b o n e=>?_)
   rw [ac n,ac (ae e ht)]; exact e
  ·refine⟨_,rfl,p,_,_,_,rfl,rfl,SqL.of hp,rfl,_,_,rfl,rfl,.inr ⟨by decide,by decide⟩,_,_,rfl,rfl,_,_,rfl,rfl,(by show (0:Int)<2147483647; decide),?_⟩
   have g0:0≤(b*48271+11) % 2147483647:=Int.emod_nonneg _ (by decide)
   have g1:(b*48271+11) % 2147483647<2147483647:=Int.emod_lt_of_pos _ (by decide)
   refine⟨_,rfl,p,_,_,_,rfl,rfl,hp,rfl,?_⟩
   refine⟨_,rfl,p,_,_,_,rfl,rfl,SqL.of aa,rfl,_,rfl,p,_,_,_,rfl,rfl,SqL.of aa,rfl,_,_,rfl,rfl,.inl ⟨by omega,by omega⟩,_,_,rfl,rfl,(by show (0:Int)<2147483629; decide),_,_,rfl,rfl,⟨by decide,by decide⟩,_,rfl,_,_,rfl,rfl,hm,?_⟩
   refine q _ _ (Int.emod_nonneg _ (by omega)) (Int.emod_lt_of_pos _ hm) ⟨_,_,_,aa,ha,g0,by omega⟩ (fun b o n e=>?_)
   rw [ac n]; exact e
structure av(p:Addr)(H H':Hp):Prop where
 pot:bJ H' p
 same:ax p H H'
theorem bJ.keep{H H':Hp}{p:Addr}(h:bJ H p)(s:Same H H'):bJ H' p:=let ⟨a,b,c,e,r⟩:=h; ⟨a,b,c,s _ _ e,r⟩
theorem bJ.some{H:Hp}{p:Addr}(h:bJ H p):∃ o,H p=some o:=let ⟨_,_,_,e,_⟩:=h; ⟨_,e⟩
inductive spUnlike(vs:List V)(H:Hp)(Q:VK)(e3_:XK):Prop | mk (p a:Addr) (m:Nat) (xs:List Str) (_:vs=[.ref p,.int m,.ref a]) (_:bJ H p) (_:SqL K H a (xs.map V.str)) (_:m≤xs.length) (_:xs.length<100) (_:xs.Nodup) (_:∀ l (ys:List Str) H',H l=none→H' l=some (.lst (ys.map V.str))→ys.length=m→ys.Nodup→(∀ y∈ys,y∈xs)→av p H H'→Q (.ref l) H')
abbrev dL:Stmt:=top 47
theorem zbf:aj ["_law_pot_here","_law_many","_law_menu","_law_left"] lB5 (ag dL):=by walk_at "F"
theorem qF(F:ah K mg "_law_unlike" dL lB5)(Z:Bl mg)(D_law_draw:Def P w K mg base "_law_draw" 1 lA6 spDraw):Def P w K mg base "_law_unlike" 2 lB5 (spUnlike (K:=K)):=by
 have SC:=zbf
 refine F.mk' (k:=1) zbf (fun vs H Q E h=>?_) (fun f cdv A outer s H vs Q E hr h=>?_)
 ·obtain⟨p,a,m,xs,rfl,_⟩:=h
  rfl
 ·obtain⟨p,a,m,xs,rfl,hp,ha,hm,hx,hn,q⟩:=h
  refine'⟨_,?dv,?_⟩
  case dv=>(have:=bG 202 11 99 1 ["_law_k","_law_pot_here","_law_many","_law_menu","_law_left"]; walk_at "S2")
  refine⟨_,rfl,a,_,rfl,.inl ha,fun L hL=>?_⟩
  refine⟨_,rfl,m,rfl,by omega,by omega,?_⟩
  intro cl C ex s0 H0
  have hpL:p≠L:=by obtain⟨o,e⟩:=hp.some; exact ae e hL
  refine bH m (fun i ys H1=>∃ zs ws:List Str,H1 L=some (.lst (zs.map V.str))∧zs.length+i=xs.length∧ys=ws.map V.str∧(ws++zs).Nodup∧(∀ y∈ws++zs,y∈xs)∧av p H H1) (fun _ _=>True)
   ⟨xs,[],aa,rfl,rfl,hn,fun y hy=>hy,hp.keep (ad hL _),(ad hL _).x⟩ (Yn (Yn hm (by omega)) (show 100≤sizeLine by decide)) (fun i ys H1 hi _ _=>⟨hi,fun x H' y=>⟨y.1,trivial⟩⟩) (fun _ _ _ _=>Yg _) ?_ ?_
  ·rintro i x ys H1 hi _ hy ⟨zs,ws,hzL,hzl,rfl,hnd,hsub,W⟩
   refine⟨_,rfl,.inl ⟨rfl,_,SqL.of hzL⟩,_,rfl,_,rfl,L,_,rfl,.inl (SqL.of hzL),p,_,rfl,W.pot,?_,?_,fun r H2 h0 h1 hp2 s2=>?_⟩
   ·rw [Yh]; omega
   ·rw [Yh]; omega
   ·rw [Yh] at h1
    have hr':r.toNat<zs.length:=by omega
    have hzL2:H2 L=some (.lst (zs.map V.str)):=s2 L _ (Ne.symm hpL) hzL
    refine⟨L,_,r,r.toNat,V.str zs[r.toNat],rfl,rfl,hzL2,by omega,by omega,zU h0 (by rw [Yh]; omega),by simp [hr'],?_⟩
    refine⟨zs.eraseIdx r.toNat,ws++[zs[r.toNat]],?_,?_,by simp,?_,?_,?_,?_⟩
    ·rw [aa,jZ]
    ·rw [List.length_eraseIdx_of_lt hr']; omega
    ·have pm:(zs[r.toNat]::zs.eraseIdx r.toNat).Perm zs:=fm zs _ hr'
     have pm2:(ws++[zs[r.toNat]]++zs.eraseIdx r.toNat).Perm (ws++zs):=by
      rw [YM]
      exact XA.append_left ws pm
     exact(XA.nodup_iff pm2).mpr hnd
    ·intro y hy
     refine hsub y ?_
     have pm:(zs[r.toNat]::zs.eraseIdx r.toNat).Perm zs:=fm zs _ hr'
     have pm2:(ws++[zs[r.toNat]]++zs.eraseIdx r.toNat).Perm (ws++zs):=by
      rw [YM]
      exact XA.append_left ws pm
     exact(XA.mem_iff pm2).mp hy
    ·obtain⟨a',b',c',e,r'⟩:=hp2
     exact⟨a',b',c',by rw [ac hpL]; exact e,r'⟩
    ·intro b o n e
     rw [ac (ae e hL)]
     exact s2 b o n (W.same b o n e)
  ·rintro ys H1 hy ⟨zs,ws,hzL,hzl,rfl,hnd,hsub,W⟩ D hD
   have hpD:p≠D:=by obtain⟨o,e⟩:=W.pot.some; exact ae e hD
   refine q D ws _ (W.same.free (Ne.symm hpD) hD) aa (by simpa using hy) (List.nodup_append.mp hnd).1 (fun y hy=>hsub y (YT _ hy)) ⟨W.pot.keep (ad hD _),W.same.same (ad hD _)⟩
end
def b6(z:Str):Prop:=1≤z.cps.toList.length∧z.cps.toList.length≤12∧∀ c∈z.cps.toList,97≤c∧c≤122
def sayWords:List Str:=["all","some","not","and","or"]
def kQ(z:Str):Prop:=b6 z∧¬ z∈sayWords
theorem eE(z:Str):z.length=z.cps.toList.length:=by show z.cps.size=_; simp
theorem dH(a b:Str):(a++b).cps.toList=a.cps.toList++b.cps.toList:=by
 show (a.cps++b.cps).toList=_
 simp
def abc:Str:=Str.ofString "abcdefghijklmnopqrstuvwxyz"
theorem cF(z:Str):∀ ws:List Str,inV (V.str z) (ws.map V.str)=decide (z∈ws)
 | []=>rfl
 | x::r=>by
  have ih:=cF z r
  have e:inV (V.str z) ((x::r).map V.str)=(eqV (V.str x) (V.str z)||inV (V.str z) (r.map V.str)):=rfl
  rw [e,ih]
  have e2:eqV (V.str x) (V.str z)=decide (x=z):=by
   first
    | rfl
    | (unfold eqV; rw [Bool.beq_eq_decide_eq])
    | (unfold eqV; simp)
  rw [e2]
  by_cases h:x=z
  ·subst h; simp
  ·have h':¬ z=x:=fun e=>h e.symm
   simp [h,h']
section
theorem av.trans{p:Addr}{H H1 H2:Hp}(a:av p H H1)(b:av p H1 H2):av p H H2:=⟨b.pot,a.same.trans b.same⟩
theorem av.mk1{p:Addr}{H H1 H2:Hp}(a:av p H H1)(pt:bJ H2 p)(s:ax p H1 H2):av p H H2:=⟨pt,a.same.trans s⟩
theorem av.new{p:Addr}{H H1:Hp}{l:Addr}(a:av p H H1)(h:H1 l=none)(o:HO):av p H (upd H1 l o):=⟨a.pot.keep (ad h o),a.same.same (ad h o)⟩
theorem av.put{p:Addr}{H H1:Hp}{l:Addr}(a:av p H H1)(n:p≠l)(h:H l=none)(o:HO):av p H (upd H1 l o):=
 ⟨let ⟨x,y,z,e,r⟩:=a.pot; ⟨x,y,z,by rw [ac n]; exact e,r⟩,fun b u nb e=>by rw [ac (ae e h)]; exact a.same b u nb e⟩
theorem av.ne{p l:Addr}{H H1:Hp}(a:av p H H1)(h:H1 l=none):p≠l:=by obtain⟨o,e⟩:=a.pot.some; exact ae e h
theorem av.free{p l:Addr}{H H1:Hp}(a:av p H H1)(h:H1 l=none):H l=none:=a.same.free (Ne.symm (a.ne h)) h
theorem av.refl{p:Addr}{H:Hp}(h:bJ H p):av p H H:=⟨h,ax.refl _ _⟩
theorem av.at{p l:Addr}{H H1:Hp}{o:HO}(a:av p H H1)(n:l≠p)(h:H l=some o):H1 l=some o:=a.same l o n h
end
def LT(H:Hp)(a:Addr)(xs:List V):Prop:=H a=some (.lst xs)∨H a=some (.tup xs)
theorem LT.mono{H H':Hp}{a:Addr}{xs:List V}(h:LT H a xs)(k:∀ o,H a=some o→H' a=some o):LT H' a xs:=h.elim (fun e=>.inl (k _ e)) fun e=>.inr (k _ e)
theorem LT.sq{K:XC}{H:Hp}{a:Addr}{xs:List V}(h:LT H a xs):SqL K H a xs∨SqT K H a xs:=h.elim (fun e=>.inl (SqL.of e)) fun e=>.inr (SqT.of e)
theorem LT.isi2{K:XC}{H:Hp}{p:Addr}{xs:List V}(h:LT H p xs):∃ (t:Value),d3 K H (.ref p) t∧PySem.W.kitAny K t [.type "list",.type "tuple"]=Option.some true:=by
 rcases h with h | h
 ·exact⟨_,.lst h,qN K⟩
 ·exact⟨_,.tup h,og K⟩
structure rD(H:Hp)(a:Addr)(xs:List V)(J:It):Prop where
 go:∀ i H',(∀ o,H a=Option.some o→H' a=Option.some o)→i<xs.length→J.go i H'∧∀ x H'',J.yld i H' x H''→H''=H'∧xs[i]? = Option.some x
 stop:∀ H',(∀ o,H a=Option.some o→H' a=Option.some o)→J.stop xs.length H'
theorem LT.over{K:XC}{H:Hp}{a:Addr}{xs:List V}{i:Nat}{σ:St}{R:It→Hp→Prop}(h:LT H a xs)(hv:σ[i]? = Option.some (Option.some (.ref a)))(k:∀ J,rD H a xs J→R J H):zj K (tVar i) σ H R:=by
 rcases h with h | h
 ·exact .inl ⟨_,hv,a,rfl,⟨_,SqL.of h⟩,k _ ⟨fun i H' kp hi=>gb (SqL.of (kp _ h)) hi,fun H' kp=>dA (SqL.of (kp _ h))⟩⟩
 ·exact .inr ⟨_,hv,a,rfl,⟨_,SqT.of h⟩,k _ ⟨fun i H' kp hi=>om (SqT.of (kp _ h)) hi,fun H' kp=>iz (SqT.of (kp _ h))⟩⟩
theorem rD.loop{J:It}{H0:Hp}{a:Addr}{xs:List V}{g:TG}{tb:TS}{D:dJ}{σ:St}{H:Hp}(O:rD H0 a xs J)(Pv:Nat→St→Hp→Prop)(h0:Pv 0 σ H)(hl:∀ i σ H,i≤xs.length→Pv i σ H→∀ o,H0 a=Option.some o→H a=Option.some o)
  (hs:∀ i x σ H,xs[i]? = Option.some x→Pv i σ H→g x σ H fun σ2 H2=>tb {D with nx:=Pv (i+1),ct:=Pv (i+1),bk:=D.nx} σ2 H2) (hd:∀ σ H,Pv xs.length σ H→D.nx σ H) :
  ∃ W:Nat→Nat→St→Hp→Prop,(∃ m,W 0 m σ H)∧∀ i m σ H,W i m σ H→
   (J.stop i H∧D.nx σ H)∨(J.go i H∧∃ N:St→Hp→Prop,(∀ σ' H',N σ' H'→∃ m',m'<m∧W (i+1) m' σ' H')∧∀ x H',J.yld i H x H'→g x σ H' fun σ2 H2=>tb {D with nx:=N,ct:=N,bk:=D.nx} σ2 H2):=by
 refine⟨fun i m σ H=>m=xs.length-i∧i≤xs.length∧Pv i σ H,⟨xs.length,by simp,Yy _,h0⟩,?_⟩
 rintro i m σ H ⟨rfl,hi,p⟩
 have q:=hl i σ H hi p
 by_cases hlt:i<xs.length
 ·obtain⟨g1,g2⟩:=O.go i H q hlt
  refine .inr ⟨g1,Pv (i+1),fun σ' H' p'=>⟨xs.length - (i+1),by omega,rfl,hlt,p'⟩,fun x H' y=>?_⟩
  obtain⟨e,y'⟩:=g2 x H' y
  subst e
  exact hs i x σ _ y' p
 ·have e:i=xs.length:=by omega
  subst e
  exact .inl ⟨O.stop H q,hd σ H p⟩
theorem rD.comp{J:It}{H0:Hp}{a:Addr}{xs:List V}{te:TE}{σ:St}{H:Hp}{Q:VK}(O:rD H0 a xs J)(Pv:Nat→List V→Hp→Prop)(h0:Pv 0 [] H)(hz:xs.length≤sizeLine)(hl:∀ i ys H,i≤xs.length→Pv i ys H→∀ o,H0 a=Option.some o→H a=Option.some o)
  (hs:∀ i x ys H,xs[i]? = Option.some x→ys.length=i→Pv i ys H→te (Option.some x::σ) H fun v H3=>Pv (i+1) (ys++[v]) H3)
  (hd:∀ ys H,ys.length=xs.length→Pv xs.length ys H→∀ D,H D=none→Q (.ref D) (upd H D (.lst ys))):fG 1 J (cG 0) te σ H Q:=
 bH xs.length Pv (fun i x=>xs[i]? = Option.some x) h0 hz (fun i ys H hi hy p=>O.go i H (hl i ys H (Nat.le_of_lt hi) p) hi) (fun ys H hy p=>O.stop H (hl _ ys H (Yg _) p)) (fun i x ys H hi hx hy p=>hs i x ys H hx hy p) hd
theorem ifT{c A B:Prop}[Decidable c](hc:c)(h:A):if c then A else B:=by rw [if_pos hc]; exact h
theorem ifF{c A B:Prop}[Decidable c](hc:¬ c)(h:B):if c then A else B:=by rw [if_neg hc]; exact h
theorem LT.same{H H':Hp}{a:Addr}{xs:List V}(h:LT H a xs)(s:Same H H'):LT H' a xs:=h.mono fun o e=>s a o e
theorem An:∀ i,i<26→(!(Builtin.Str.occurrences abc ⟨#[97+i]⟩ 0 abc.length 1).isEmpty)=true:=by decide +kernel
theorem uS{c:Nat}(h0:97≤c)(h1:c≤122):(!(Builtin.Str.occurrences abc ⟨#[c]⟩ 0 abc.length 1).isEmpty)=true:=by
 have:=An (c-97) (by omega)
 rwa [show 97+(c-97)=c by omega] at this
structure Gs(K:XC)(mg:Str→Option Value):Prop where
 letters:∃ u,mg "LETTERS"=some u∧aq (.str abc) u
 longest:∃ u,mg "LONGEST_NAME"=some u∧aq (.int 12) u
 mkinds:∃ u,mg "MOST_KINDS"=some u∧aq (.int 4) u
 msigns:∃ u,mg "MOST_SIGNS"=some u∧aq (.int 8) u
 mplaces:∃ u,mg "MOST_PLACES"=some u∧aq (.int 2) u
 words:∃ a,mg "WORDS_OF_SAYINGS"=some (.ref a)∧∀ H,SqT K H a (sayWords.map V.str)
theorem dF:∀ ws:List Str,(ws.map V.str).all dZ=true
 | []=>rfl
 | x::r=>by
  show (dZ (V.str x)&&(r.map V.str).all dZ)=true
  rw [dF r]; rfl
theorem AY:¬ (("kept_ties":Str)="kept_kinds"):=by decide +kernel
theorem A0:¬ (("kept_functions":Str)="kept_kinds"):=by decide +kernel
theorem AZ:¬ (("kept_functions":Str)="kept_ties"):=by decide +kernel
def flK(kt:Addr):List (Str×V):=aT "kept_kinds" (.ref kt) []
def flT(kt tt:Addr):List (Str×V):=aT "kept_ties" (.ref tt) (flK kt)
def flF(kt tt ft:Addr):List (Str×V):=aT "kept_functions" (.ref ft) (flT kt tt)
theorem jY(kt:Addr):(flK kt).lookup ("kept_kinds":Str)=some (.ref kt):=by unfold flK; rw [ao,if_pos rfl]
theorem jX(kt tt:Addr):(flT kt tt).lookup ("kept_kinds":Str)=some (.ref kt):=by unfold flT; rw [ao,if_neg (fun z=>AY z.symm)]; exact jY kt
theorem u7(kt tt:Addr):(flT kt tt).lookup ("kept_ties":Str)=some (.ref tt):=by unfold flT; rw [ao,if_pos rfl]
theorem qY(kt tt ft:Addr):(flF kt tt ft).lookup ("kept_kinds":Str)=some (.ref kt):=by unfold flF; rw [ao,if_neg (fun z=>A0 z.symm)]; exact jX kt tt
theorem mF(kt tt ft:Addr):(flF kt tt ft).lookup ("kept_ties":Str)=some (.ref tt):=by unfold flF; rw [ao,if_neg (fun z=>AZ z.symm)]; exact u7 kt tt
theorem mG(kt tt ft:Addr):(flF kt tt ft).lookup ("kept_functions":Str)=some (.ref ft):=by unfold flF; rw [ao,if_pos rfl]
theorem xi(kt:Addr):(flK kt).length<1000:=YI (aL _ _ _) (by decide)
theorem xh(kt tt:Addr):(flT kt tt).length<1000:=by
 have h1:=aL ("kept_ties":Str) (.ref tt) (flK kt)
 have h2:=aL ("kept_kinds":Str) (.ref kt) []
 unfold flT flK at *
 simp only [YR] at h2
 omega
theorem u6{kt tt ft:Addr}{m:Str}(h1:¬ m="kept_functions")(h2:¬ m="kept_ties")(h3:¬ m="kept_kinds"):(flF kt tt ft).lookup m=none:=by
 unfold flF flT flK
 rw [ao,if_neg h1,ao,if_neg h2,ao,if_neg h3]
 rfl
abbrev Any:Addr→Prop:=fun _=>True
def gp(H H':Hp):Prop:=∀ a xs,H a=some (.tup xs)→H' a=some (.tup xs)
theorem Same.tups{H H':Hp}(s:Same H H'):gp H H':=fun a xs e=>s a _ e
theorem kW{K:XC}{H:Hp}{a b:Addr}{xs ys:List V}{Q:VK}(ha:H a=some (.tup xs))(hb:H b=some (.tup ys))(hl:xs.length+ys.length≤sizeLine)(q:∀ p H',H' p=some (.tup (xs++ys))→Same H H'→Q (.ref p) H'):rCatTT K (.ref a) (.ref b) H Q:=by
 refine⟨a,b,xs,ys,rfl,rfl,SqT.of ha,SqT.of hb,hl,fun e=>?_,fun _ e=>?_,fun _ _ p hp=>q p _ aa (ad hp _)⟩
 ·subst e; exact q b H hb (Same.refl _)
 ·subst e; exact q a H (by rw [YS]; exact ha) (Same.refl _)
structure ClS(K:XC)(C:Addr):Prop where
 cl:Cls K C
 nK:cu K C "kept_kinds"
 nT:cu K C "kept_ties"
 nF:cu K C "kept_functions"
local macro_rules | `(tactic| walk_at "K")=>`(tactic| exact ‹ClS _ _›.cl)
structure ar where
 nm:Str
 ps:List Str
structure am where
 nm:Str
 ps:List Str
 kd:Str
def fN(ws:List Str):List PyData:=ws.map PyData.str
def lr(t:ar):PyData:=.tuple [.str t.nm,.list (fN t.ps)]
def kT(t:am):PyData:=.tuple [.str t.nm,.list (fN t.ps),.str t.kd]
def pV(ks:List Str)(ts:List ar)(fs:List am):PyData:=.tuple [.list (fN ks),.list (ts.map lr),.list (fs.map kT)]
structure aV(ks:List Str)(ts:List ar)(fs:List am):Prop where
 kn:ks.Nodup
 k1:1≤ks.length
 k4:ks.length≤4
 kn2:∀ k∈ks,b6 k
 sn:(ts.map (·.nm)++fs.map (·.nm)).Nodup
 sl:ts.length+fs.length≤8
 tn:∀ t∈ts,kQ t.nm∧t.ps.length≤2∧∀ k∈t.ps,k∈ks
 fn:∀ t∈fs,kQ t.nm∧t.ps.length≤2∧(∀ k∈t.ps,k∈ks)∧t.kd∈ks
def menuK:List Str:=["a","b","c","all","not","x","kind","size","r","f","abcdefghijkl"]
def menuS:List Str:=["r","s","q","f","g","c","x","say","holds","none","tie","next","zyxwvutsrqpo"]
theorem uG:∀ k∈menuK,b6 k:=by unfold b6; decide +kernel
theorem uE:∀ k∈menuS,kQ k:=by unfold kQ b6; decide +kernel
theorem uH:menuK.Nodup:=by decide +kernel
theorem uF:menuS.Nodup:=by decide +kernel
section
abbrev fi:Stmt:=top 48
theorem zbg:aj ["_law_pot_here","_law_most_kinds","_law_most_signs","_law_menu","_law_kinds","_law_names","_law_ties","_law_functions","_law_name_here","_law_places"] lB1 (ag fi):=by walk_at "F"
inductive spBook(vs:List V)(H:Hp)(Q:VK)(e3_:XK):Prop | mk (p:Addr) (mk ms:Nat) (_:vs=[.ref p,.int mk,.int ms]) (_:bJ H p) (_:1≤mk) (_:mk≤4) (_:ms≤8) (_:∀ v H' ks ts fs,RdV (fun a=>H a=none) H' v (pV ks ts fs)→aV ks ts fs→ks.length≤mk→ts.length+fs.length≤ms→av p H H'→Q v H')
theorem wU(F:ah K mg "_law_book" fi lB1)(Z:Bl mg)(D_law_draw:Def P w K mg base "_law_draw" 1 lA6 spDraw)
  (D_law_unlike:Def P w K mg base "_law_unlike" 2 lB5 (spUnlike (K:=K))) :
  Def P w K mg base "_law_book" 3 lB1 spBook:=by
 have SC:=zbg
 refine F.mk' (k:=2) zbg (fun vs H Q E h=>?_) (fun f cdv A outer s H vs Q E hr h=>?_)
 ·obtain⟨p,mk,ms,rfl,_⟩:=h
  rfl
 ·obtain⟨p,mk,ms,rfl,hp,hm1,hm4,hms,q⟩:=h
  refine'⟨_,?dv,?_⟩
  case dv=>(have:=bG 211 8 140 1 ["_law_k","_law_pot_here","_law_most_kinds","_law_most_signs","_law_menu","_law_kinds","_law_names","_law_ties","_law_functions","_law_name_here","_law_places"]; walk_at "S2")
  refine⟨by show 11≤sizeLine; decide,fun M1 hM1=>?_⟩
  have W1:=(av.refl hp).new hM1 (.lst (menuK.map V.str))
  refine⟨_,rfl,_,rfl,_,rfl,p,_,rfl,W1.pot,by omega,by omega,fun r1 H1 a0 a1 hp1 s1=>?_⟩
  have W2:=W1.mk1 hp1 s1
  have hM1':H1 M1=some (.lst (menuK.map V.str)):=s1 M1 _ (Ne.symm ((av.refl hp).ne hM1)) aa
  refine⟨_,_,rfl,rfl,_,rfl,p,M1,(1+r1).toNat,menuK,?_,hp1,SqL.of hM1',?_,by decide,uH,fun kA ks H2 hkA hkA2 hkl hknd hkin W3=>?_⟩
  ·show [V.ref p,V.int (1+r1),V.ref M1]=_
   rw [Int.toNat_of_nonneg (by omega)]
  ·show (1+r1).toNat≤11
   omega
  have W4:=W2.trans W3
  have kfree:H kA=none:=W2.free hkA
  have npk:kA≠p:=by rintro rfl; obtain⟨o,e⟩:=hp.some; rw [kfree] at e; cases e
  have hknm:∀ k∈ks,b6 k:=fun k hk=>uG k (hkin k hk)
  generalize hH3:H2=H3 at *
  have hk3:=hkA2
  have W5:=W4
  refine⟨by show 13≤sizeLine; decide,fun M2 hM2=>?_⟩
  have W6:=W5.new hM2 (.lst (menuS.map V.str))
  have hk6:(upd H3 M2 (.lst (menuS.map V.str))) kA=some (.lst (ks.map V.str)):=by rw [ac (ae hk3 hM2)]; exact hk3
  refine⟨_,rfl,_,rfl,_,rfl,_,_,rfl,rfl,p,_,rfl,W6.pot,by omega,by omega,fun r3 H7 c0 c1 hp7 s7=>?_⟩
  have W7:=W6.mk1 hp7 s7
  have hM7:H7 M2=some (.lst (menuS.map V.str)):=s7 M2 _ (Ne.symm (W5.ne hM2)) aa
  have hk7:H7 kA=some (.lst (ks.map V.str)):=s7 kA _ npk hk6
  refine⟨_,rfl,p,M2,r3.toNat,menuS,?_,hp7,SqL.of hM7,?_,by decide,uF,fun nA ns H8 hnA hnA2 hnl hnnd hnin W8=>?_⟩
  ·show [V.ref p,V.int r3,V.ref M2]=_
   rw [Int.toNat_of_nonneg c0]
  ·show r3.toNat≤13
   omega
  have W9:=W7.trans W8
  have nfree:H nA=none:=W7.free hnA
  have npn:nA≠p:=by rintro rfl; obtain⟨o,e⟩:=hp.some; rw [nfree] at e; cases e
  have hk8:H8 kA=some (.lst (ks.map V.str)):=W8.at npk hk7
  have hnsg:∀ k∈ns,kQ k:=fun k hk=>uE k (hnin k hk)
  have hn9:=hnA2
  have hk9:=hk8
  have W10:=W9
  refine⟨by show 0≤sizeLine; decide,fun tA htA=>?_⟩
  have W11:=W10.new htA (.lst [])
  refine⟨by show 0≤sizeLine; decide,fun fA hfA=>?_⟩
  have W12:=W11.new hfA (.lst [])
  have tfree:H tA=none:=W10.free htA
  have ffree:H fA=none:=W11.free hfA
  have ntf:tA≠fA:=ae aa hfA
  have hpt:p≠tA:=W10.ne htA
  have hpf:p≠fA:=W11.ne hfA
  have nkt:kA≠tA:=ae hk9 htA
  have nkf:kA≠fA:=ae (by rw [ac nkt]; exact hk9) hfA
  have nnt:nA≠tA:=ae hn9 htA
  have nnf:nA≠fA:=ae (by rw [ac nnt]; exact hn9) hfA
  have pne:∀ a,H a=none→a≠p:=fun a e=>by rintro rfl; obtain⟨o,e2⟩:=hp.some; rw [e] at e2; cases e2
  have keepR:∀ {H2 H3:Hp} {xs:List V} {ds:List PyData},ax p H2 H3→RdA (fun a=>H a=none∧a≠tA∧a≠fA) H2 xs ds→RdA (fun a=>H a=none∧a≠tA∧a≠fA) H3 xs ds:=fun s r=>r.mono (fun _ z=>z) fun a o z e=>s a o (pne a z.1) e
  refine⟨_,rfl,nA,rfl,⟨_,SqL.of (by rw [ac nnf,ac nnt]; exact hn9)⟩,ge (K:=K) (a:=nA) (xs:=ns.map V.str) (fun i σ H2=>∃ (ts:List ar) (fs:List am) (tv fv:List V) (v8 v9:Option V),σ=[some (.ref p),some (.int mk),some (.int ms),some (.ref M2),some (.ref kA),some (.ref nA),some (.ref tA),some (.ref fA),v8,v9]∧
    H2 tA=some (.lst tv)∧RdA (fun a=>H a=none∧a≠tA∧a≠fA) H2 tv (ts.map lr)∧H2 fA=some (.lst fv)∧RdA (fun a=>H a=none∧a≠tA∧a≠fA) H2 fv (fs.map kT)∧
    (ts.map (·.nm)++fs.map (·.nm)).Perm (ns.take i)∧(∀ t∈ts,kQ t.nm∧t.ps.length≤2∧∀ k∈t.ps,k∈ks)∧(∀ t∈fs,kQ t.nm∧t.ps.length≤2∧(∀ k∈t.ps,k∈ks)∧t.kd∈ks)∧H2 kA=some (.lst (ks.map V.str))∧H2 nA=some (.lst (ns.map V.str))∧av p H H2)
   ⟨[],[],[],[],none,none,rfl,(by rw [ac ntf]; exact aa),.nil,aa,.nil,(by simp),(fun _ h=>nomatch h),(fun _ h=>nomatch h),(by rw [ac nkf,ac nkt]; exact hk9),(by rw [ac nnf,ac nnt]; exact hn9),W12⟩
   (by rintro i σ H2 _ ⟨_,_,_,_,_,_,_,_,_,_,_,_,_,_,_,z,_⟩;exact SqL.of z) ?_ ?_⟩
  ·rintro i y σ H2 hi ⟨ts,fs,tv,fv,v8,v9,rfl,hT,rT,hF,rF,hperm,okT,okF,hK,hN,W⟩
   have hil:i<ns.length:=by have:=(Yv.mp hi).1; simpa using this
   obtain rfl:y=V.str ns[i]:=by
    have : (ns.map V.str)[i]? = some (V.str ns[i]):=by simp [hil]
    rw [this] at hi; exact(Option.some.inj hi).symm
   have lenT:ts.length+fs.length=i:=by
    have:=hperm.length_eq
    simp only [Yw,Yh,YV] at this
    omega
   have tvl:tv.length=ts.length:=by rw [rT.length,Yh]
   have fvl:fv.length=fs.length:=by rw [rF.length,Yh]
   have n8:ns.length≤8:=by omega
   refine⟨by show 4≤sizeLine; decide,fun L hL=>?_⟩
   have V1:=(av.refl W.pot).new hL (.lst [.int 0,.int 1,.int 1,.int 2])
   refine⟨_,rfl,p,_,rfl,V1.pot,by decide,by decide,fun r5 H10 e0 e1 hp10 s10=>?_⟩
   have V2:=V1.mk1 hp10 s10
   have hL10:H10 L=some (.lst [.int 0,.int 1,.int 1,.int 2]):=s10 L _ (Ne.symm ((av.refl W.pot).ne hL)) aa
   obtain⟨c,hc,hc0,hc2⟩:∃ c:Int,atI [V.int 0,V.int 1,V.int 1,V.int 2] r5=some (V.int c)∧0≤c∧c≤2:=by
    have h4:r5=0∨r5=1∨r5=2∨r5=3:=by omega
    rcases h4 with rfl | rfl | rfl | rfl
    ·exact⟨0,rfl,by decide,by decide⟩
    ·exact⟨1,rfl,by decide,by decide⟩
    ·exact⟨1,rfl,by decide,by decide⟩
    ·exact⟨2,rfl,by decide,by decide⟩
   refine⟨L,_,r5,_,rfl,rfl,SqL.of hL10,hc,c,rfl,by omega,by omega,?_⟩
   intro cl C ex sc Hc
   refine bH c.toNat (fun j ys H11=>∃ us:List Str,ys=us.map V.str∧(∀ u∈us,u∈ks)∧av p H2 H11) (fun _ _=>True)
    ⟨[],rfl,(fun _ h=>nomatch h),V2⟩ (Yn (show c.toNat≤100 by omega) (show 100≤sizeLine by decide)) (fun i ys H1 hi _ _=>⟨hi,fun x H' y=>⟨y.1,trivial⟩⟩) (fun _ _ _ _=>Yg _) ?_ ?_
   ·rintro j x ys H11 hj _ hy ⟨us,rfl,hus,V3⟩
    have hK11:H11 kA=some (.lst (ks.map V.str)):=V3.at npk hK
    refine⟨_,rfl,_,rfl,_,rfl,kA,_,rfl,.inl (SqL.of hK11),p,_,rfl,V3.pot,by rw [Yh]; omega,by rw [Yh]; omega,fun r6 H12 g0 g1 hp12 s12=>?_⟩
    rw [Yh] at g1
    have hr6:r6.toNat<ks.length:=by omega
    refine⟨kA,_,r6,V.str ks[r6.toNat],rfl,rfl,SqL.of (s12 kA _ npk hK11),aK g0 (by simp [hr6]),us++[ks[r6.toNat]],by simp,fun u hu=>?_,V3.mk1 hp12 s12⟩
    rcases YN.mp hu with hu | hu
    ·exact hus u hu
    ·rw [Yp.mp hu]; exact Xd hr6
   rintro ys H11 hy ⟨us,rfl,hus,V3⟩ D hD
   have hul:us.length≤2:=by
    have : us.length=c.toNat:=by simpa using hy
    omega
   have V4:=V3.new hD (.lst (us.map V.str))
   have W4:av p H (upd H11 D (.lst (us.map V.str))):=⟨V4.pot,W.same.trans V4.same⟩
   refine⟨_,rfl,p,_,rfl,V4.pot,by decide,by decide,fun r7 H13 k0 k1 hp13 s13=>?_⟩
   refine⟨_,_,rfl,rfl,_,rfl,?_⟩
   have V5:=V4.mk1 hp13 s13
   have W5:av p H H13:=⟨hp13,W4.same.trans s13⟩
   have hT13:H13 tA=some (.lst tv):=V5.at (Ne.symm hpt) hT
   have hF13:H13 fA=some (.lst fv):=V5.at (Ne.symm hpf) hF
   have hK13:H13 kA=some (.lst (ks.map V.str)):=V5.at npk hK
   have hN13:H13 nA=some (.lst (ns.map V.str)):=V5.at npn hN
   have rT13:=keepR V5.same rT
   have rF13:=keepR V5.same rF
   have nDp:D≠p:=Ne.symm (V3.ne hD)
   have hD13:H13 D=some (.lst (us.map V.str)):=s13 D _ nDp aa
   have hDfree:H D=none:=(show av p H H11 from ⟨V3.pot,W.same.trans V3.same⟩).free hD
   have nDt:D≠tA:=by rintro rfl; rw [V3.at (Ne.symm hpt) hT] at hD; cases hD
   have nDf:D≠fA:=by rintro rfl; rw [V3.at (Ne.symm hpf) hF] at hD; cases hD
   have ptake:ns.take (i+1)=ns.take i++[ns[i]]:=by rw [YL]; simp [hil]
   refine zf (fun _=>?_) (fun _=>?_)
   ·
    refine⟨_,rfl,.inl ⟨rfl,_,SqL.of hT13⟩,_,rfl,_,rfl,by show 2≤sizeLine; decide,fun T hTn=>?_⟩
    have nTp:=W5.ne hTn
    have nTt:T≠tA:=by rintro rfl; rw [hT13] at hTn; cases hTn
    have nTf:T≠fA:=by rintro rfl; rw [hF13] at hTn; cases hTn
    have W6:=W5.new hTn (.tup [.str ns[i],.ref D])
    refine⟨tA,tv,_,rfl,rfl,by rw [ac (Ne.symm nTt)]; exact hT13,YC (show tv.length<100 by omega) (by decide),?_⟩
    have W7:=W6.put hpt tfree (.lst (tv++[.ref T]))
    have st:∀ a o,(H a=none∧a≠tA∧a≠fA)→H13 a=some o→(upd (upd H13 T (.tup [.str ns[i],.ref D])) tA (.lst (tv++[.ref T]))) a=some o:=fun a o z e=>by rw [ac z.2.1,ac (ae e hTn)]; exact e
    refine⟨ts++[⟨ns[i],us⟩],fs,tv++[.ref T],fv,_,_,rfl,aa,?_,?_,?_,?_,?_,okF,?_,?_,W7⟩
    ·rw [Yz]
     refine(rT13.mono (fun _ z=>z) st).snoc (.tup ⟨W5.free hTn,nTt,nTf⟩ (by rw [ac nTt]; exact aa) (.cons (.str _) (.cons (.lst ⟨hDfree,nDt,nDf⟩ (st D _ ⟨hDfree,nDt,nDf⟩ hD13) (RdA.strs us)) .nil)))
    ·rw [ac (Ne.symm ntf),ac (Ne.symm nTf)]; exact hF13
    ·exact rF13.mono (fun _ z=>z) st
    ·rw [Yz,YA,List.map_nil,ptake,YM]
     refine(XA.append_left _ List.perm_append_comm).trans ?_
     rw [← YM]
     exact XA.append_right _ hperm
    ·intro t ht
     rcases YN.mp ht with ht | ht
     ·exact okT t ht
     ·rw [Yp.mp ht]; exact⟨hnsg _ (Xd hil),hul,hus⟩
    ·rw [ac nkt,ac (ae hK13 hTn)]; exact hK13
    ·rw [ac nnt,ac (ae hN13 hTn)]; exact hN13
   ·
    refine⟨_,rfl,.inl ⟨rfl,_,SqL.of hF13⟩,_,rfl,_,rfl,_,rfl,_,rfl,_,rfl,kA,_,rfl,.inl (SqL.of hK13),p,_,rfl,hp13,by rw [Yh]; omega,by rw [Yh]; omega,fun r8 H14 m0 m1 hp14 s14=>?_⟩
    rw [Yh] at m1
    have hr8:r8.toNat<ks.length:=by omega
    have hK14:=s14 kA _ npk hK13
    have hT14:=s14 tA _ (Ne.symm hpt) hT13
    have hF14:=s14 fA _ (Ne.symm hpf) hF13
    have hN14:=s14 nA _ npn hN13
    have rT14:=keepR s14 rT13
    have rF14:=keepR s14 rF13
    have hD14:=s14 D _ nDp hD13
    have W6:=W5.mk1 hp14 s14
    refine⟨kA,_,r8,V.str ks[r8.toNat],rfl,rfl,SqL.of hK14,aK m0 (by simp [hr8]),by show 3≤sizeLine; decide,fun T hTn=>?_⟩
    have nTt:T≠tA:=by rintro rfl; rw [hT14] at hTn; cases hTn
    have nTf:T≠fA:=by rintro rfl; rw [hF14] at hTn; cases hTn
    have W7:=W6.new hTn (.tup [.str ns[i],.ref D,.str ks[r8.toNat]])
    refine⟨fA,fv,_,rfl,rfl,by rw [ac (Ne.symm nTf)]; exact hF14,YC (show fv.length<100 by omega) (by decide),?_⟩
    have W8:=W7.put hpf ffree (.lst (fv++[.ref T]))
    have st:∀ a o,(H a=none∧a≠tA∧a≠fA)→H14 a=some o→(upd (upd H14 T (.tup [.str ns[i],.ref D,.str ks[r8.toNat]])) fA (.lst (fv++[.ref T]))) a=some o:=fun a o z e=>by rw [ac z.2.2,ac (ae e hTn)]; exact e
    refine⟨ts,fs++[⟨ns[i],us,ks[r8.toNat]⟩],tv,fv++[.ref T],_,_,rfl,?_,?_,aa,?_,?_,okT,?_,?_,?_,W8⟩
    ·rw [ac ntf,ac (Ne.symm nTt)]; exact hT14
    ·exact rT14.mono (fun _ z=>z) st
    ·rw [Yz]
     refine(rF14.mono (fun _ z=>z) st).snoc (.tup ⟨W6.free hTn,nTt,nTf⟩ (by rw [ac nTf]; exact aa) (.cons (.str _) (.cons (.lst ⟨hDfree,nDt,nDf⟩ (st D _ ⟨hDfree,nDt,nDf⟩ hD14) (RdA.strs us)) (.cons (.str _) .nil))))
    ·rw [Yz,YA,List.map_nil,ptake,← YM]
     exact XA.append_right _ hperm
    ·intro t ht
     rcases YN.mp ht with ht | ht
     ·exact okF t ht
     ·rw [Yp.mp ht]; exact⟨hnsg _ (Xd hil),hul,hus,Xd hr8⟩
    ·rw [ac nkf,ac (ae hK14 hTn)]; exact hK14
    ·rw [ac nnf,ac (ae hN14 hTn)]; exact hN14
  ·rintro σ H2 ⟨ts,fs,tv,fv,v8,v9,rfl,hT,rT,hF,rF,hperm,okT,okF,hK,hN,W⟩
   rw [Yh,YQ] at hperm
   have lenT:ts.length+fs.length=ns.length:=by
    have:=hperm.length_eq
    simpa using this
   refine⟨_,rfl,_,rfl,_,rfl,by show 3≤sizeLine; decide,fun B hB=>?_⟩
   have hs:=ad hB (.tup [.ref kA,.ref tA,.ref fA])
   refine q _ _ ks ts fs (.tup (W.free hB) aa (.cons (.lst kfree (hs _ _ hK) (RdA.strs ks)) (.cons (.lst tfree (hs _ _ hT) (rT.mono (fun _ z=>z.1) fun a o _ e=>hs a o e)) (.cons (.lst ffree (hs _ _ hF) (rF.mono (fun _ z=>z.1) fun a o _ e=>hs a o e)) .nil))))
    ⟨hknd,by omega,by omega,hknm,(XA.nodup_iff hperm).mpr hnnd,by omega,okT,okF⟩ (by omega) (by omega) (W.new hB _)
end
structure li where
 nm:Str
 ps:List Str
 rest:List Str
def se(t:ar):li:=⟨t.nm,t.ps,[]⟩
def u3(t:am):li:=⟨t.nm,t.ps,[t.kd]⟩
def eO(t:ar):PyData:=.tuple [.str t.nm,.tuple (fN t.ps)]
def fq(t:am):PyData:=.tuple [.str t.nm,.tuple (fN t.ps),.str t.kd]
structure xC(H:Hp)(q:Addr×Addr)(r:li):Prop where
 row:LT H q.1 (.str r.nm::.ref q.2::r.rest.map V.str)
 plc:LT H q.2 (r.ps.map V.str)
inductive Sgs(H:Hp):List (Addr×Addr)→List li→Prop where
 | nil:Sgs H [] []
 | cons {q:Addr×Addr} {r:li} {ab:List (Addr×Addr)} {rs:List li}:xC H q r→Sgs H ab rs→Sgs H (q::ab) (r::rs)
theorem Sgs.length{H:Hp}:∀ {ab:List (Addr×Addr)} {rs:List li},Sgs H ab rs→ab.length=rs.length
 | _,_,.nil=>rfl
 | _,_,.cons _ t=>by rw [Ys,Ys,Sgs.length t]
theorem Sgs.get{H:Hp}:∀ {ab:List (Addr×Addr)} {rs:List li} {i:Nat} {q:Addr×Addr},Sgs H ab rs→ab[i]? = some q→∃ r,rs[i]? = some r∧xC H q r
 | _,_,_,_,.nil,h=>by simp at h
 | _,_,0,_,.cons a t,h=>by simp at h; subst h; exact⟨_,rfl,a⟩
 | _,_,i+1,_,.cons a t,h=>by simpa using Sgs.get (i:=i) t (by simpa using h)
section
abbrev eI:Stmt:=top 14
theorem zbh:aj lA8 lA8 (ag eI):=by walk_at "F"
inductive spIsList(vs:List V)(H:Hp)(Q:VK)(e3_:XK):Prop | mk (a:Addr) (xs:List V) (_:vs=[.ref a]) (_:LT H a xs) (_:∀ H',Same H H'→Q (.bl true) H')
theorem nX(F:ah K mg "is_list" eI lA8)(Z:Bl mg):Def P w K mg base "is_list" 1 lA8 spIsList:=by
 have SC:=zbh
 refine F.mk' (k:=0) zbh (fun vs H Q E h=>?_) (fun f cdv A outer s H vs Q E hr h=>?_)
 ·obtain⟨a,xs,rfl,_⟩:=h
  rfl
 ·obtain⟨a,xs,rfl,hL,q⟩:=h
  refine'⟨_,?dv,?_⟩
  case dv=>(have:=af 1 30 11 43; walk_at "S1")
  refine⟨_,rfl,by show 2≤sizeLine; decide,fun t ht=>?_⟩
  have st:=ad ht (.tup [.ty "list",.ty "tuple"])
  obtain⟨ty,hty,hk⟩:=(hL.same st).isi2 (K:=K)
  exact⟨_,t,ty,true,rfl,aa,hty,hk,q _ st⟩
abbrev eG:Stmt:=top 15
theorem zbi:aj lA8 lA8 (ag eG):=by walk_at "F"
inductive spIsName(vs:List V)(H:Hp)(Q:VK)(e3_:XK):Prop | mk (z:Str) (_:vs=[.str z]) (_:b6 z) (_:∀ H',Same H H'→Q (.bl true) H')
theorem nW(F:ah K mg "is_name" eG lA8)(Z:Bl mg)(G:Gs K mg):Def P w K mg base "is_name" 1 lA8 spIsName:=by
 have SC:=zbi
 obtain⟨_,g_LETTERS,r_LETTERS⟩:=G.letters
 obtain⟨_,g_LONGEST_NAME,r_LONGEST_NAME⟩:=G.longest
 refine F.mk' (k:=0) zbi (fun vs H Q E h=>?_) (fun f cdv A outer s H vs Q E hr h=>?_)
 ·obtain⟨z,rfl,_⟩:=h
  rfl
 ·obtain⟨z,rfl,⟨h1,h2,h3⟩,q⟩:=h
  have hz:=eE z
  have hcs:z.cps.size=z.cps.toList.length:=by simp
  refine'⟨_,?dv,?_⟩
  case dv=>(have:=af 2 32 11 33; have:=af 3 34 16 31; have:=af 4 32 46 56; have:=bG 34 15 50 1 ["sign","thing"]; have:=af 5 34 44 49; have:=af 6 34 16 31; walk_at "S2")
  refine⟨_,rfl,_,_,_,rfl,.str _,iY K,true,rfl,cX ?_⟩
  refine⟨_,rfl,_,rfl,Yn (show z.length≤12 by omega) (by decide),_,_,rfl,rfl,_,rfl,ifT (decide_eq_true (by omega)) ?_⟩
  refine⟨_,_,rfl,rfl,_,rfl,ifF (by simp; omega) ?_⟩
  refine⟨_,rfl,z,rfl,?_⟩
  intro cl C ex s0 H0
  refine bH z.cps.size (fun i ys H1=>ys=(List.replicate i true).map V.bl∧H1=H) (fun i x=>∃ c,z.cps[i]? = some c∧x=.str ⟨#[c]⟩) ⟨rfl,rfl⟩ (Yn (show z.cps.size≤12 by omega) (by decide)) (fun i ys H1 hi _ _=>on hi) (fun ys H1 _ _=>iA) ?_ ?_
  ·rintro i x ys H1 hi ⟨c,hc,rfl⟩ hy ⟨rfl,rfl⟩
   have hm:c∈z.cps.toList:=by
    have : z.cps.toList[i]? = some c:=by simpa using hc
    exact YD this
   obtain⟨c0,c1⟩:=h3 c hm
   refine⟨_,rfl,_,_,rfl,rfl,?_,rfl⟩
   rw [uS c0 c1,List.replicate_succ',Yz]
   rfl
  ·rintro ys H1 hy ⟨rfl,rfl⟩ D hD
   refine⟨D,List.replicate z.cps.size true,rfl,SqL.of aa,?_⟩
   have e:(List.replicate z.cps.size true).all id=true:=by simp
   rw [e]
   exact q _ (ad hD _)
abbrev dw:Stmt:=top 42
theorem zbj:aj lD9 lD9 (ag dw):=by walk_at "F"
inductive spApart(vs:List V)(H:Hp)(Q:VK)(e3_:XK):Prop | mk (a:Addr) (ws:List Str) (_:vs=[.ref a]) (_:LT H a (ws.map V.str)) (_:ws.Nodup) (_:ws.length≤1000) (_:∀ H',Same H H'→Q .non H')
theorem uu(F:ah K mg "check_apart" dw lD9)(Z:Bl mg):Def P w K mg base "check_apart" 1 lD9 spApart:=by
 have SC:=zbj
 refine F.mk' (k:=0) zbj (fun vs H Q E h=>?_) (fun f cdv A outer s H vs Q E hr h=>?_)
 ·obtain⟨a,ws,rfl,_⟩:=h
  rfl
 ·obtain⟨a,ws,rfl,hL,hnd,hl,q⟩:=h
  refine'⟨_,?dv,?_⟩
  case dv=>(have:=af 7 185 7 22; walk_at "S1")
  refine⟨_,rfl,a,ws,rfl,hL.sq,YI (show ws.length+1≤1001 by omega) (by decide),fun d hd=>?_⟩
  have st:=ad hd (zB P w d ws)
  refine⟨d,ws,rfl,aa,?_⟩
  refine⟨_,rfl,a,_,rfl,(hL.same st).sq,rfl,_,rfl,?_⟩
  have e:(ws.foldl ci []).length=ws.length:=by rw [gY ws [] hnd (fun _ _ z=>nomatch z)]; simp
  refine ifF ?_ (q _ st)
  rw [e,Yh]
  simp
abbrev cI:Stmt:=top 36
theorem zbk:aj lC5 lE3 (ag cI):=by walk_at "F"
structure xE(ks:List Str):Prop where
 kn:ks.Nodup
 k1:1≤ks.length
 k4:ks.length≤4
 kn2:∀ k∈ks,b6 k
inductive spKinds(vs:List V)(H:Hp)(Q:VK)(e3_:XK):Prop | mk (a:Addr) (ks:List Str) (_:vs=[.ref a]) (_:LT H a (ks.map V.str)) (_:xE ks) (_:∀ t H',H' t=some (.tup (ks.map V.str))→Same H H'→Q (.ref t) H')
theorem um(F:ah K mg "checked_kinds" cI lE3)(Z:Bl mg)(G:Gs K mg)(D_is_list:Def P w K mg base "is_list" 1 lA8 spIsList)(D_is_name:Def P w K mg base "is_name" 1 lA8 spIsName)(D_check_apart:Def P w K mg base "check_apart" 1 lD9 spApart):
  Def P w K mg base "checked_kinds" 2 lE3 spKinds:=by
 have SC:=zbk
 obtain⟨_,g_MOST_KINDS,r_MOST_KINDS⟩:=G.mkinds
 refine F.mk' (k:=1) zbk (fun vs H Q E h=>?_) (fun f cdv A outer s H vs Q E hr h=>?_)
 ·obtain⟨a,ks,rfl,_⟩:=h
  rfl
 ·obtain⟨a,ks,rfl,hL,ok,q⟩:=h
  have k1:=ok.k1
  have k4:=ok.k4
  refine'⟨_,?dv,?_⟩
  case dv=>(have:=af 8 157 16 21; walk_at "S2")
  refine⟨_,rfl,a,_,rfl,hL,fun H1 s1=>⟨true,rfl,cX ?_⟩⟩
  refine⟨_,rfl,a,_,rfl,(hL.same s1).sq,_,_,rfl,rfl,_,rfl,ifT (decide_eq_true (by rw [Yh]; omega)) ?_⟩
  refine⟨_,_,rfl,rfl,_,rfl,ifF (by rw [Yh]; simp; omega) ?_⟩
  refine(hL.same s1).over rfl fun J O=>O.loop (fun j σ H2=>∃ v,σ=[some (.ref a),v]∧Same H1 H2) ⟨_,rfl,Same.refl _⟩ (fun j σ H2 _ ⟨_,_,z⟩ o e=>z a o e) ?_ ?_
  ·rintro i x σ H2 hi ⟨v,rfl,s2⟩
   rw [YB] at hi
   obtain⟨k,hk,rfl⟩:=Yx.mp hi
   refine⟨_,rfl,k,rfl,ok.kn2 k (YD hk),fun H3 s3=>⟨true,rfl,cX ?_⟩⟩
   exact⟨_,rfl,s2.trans s3⟩
  ·rintro σ H2 ⟨v,rfl,s2⟩
   refine⟨_,rfl,a,ks,rfl,(hL.same s1).same s2,ok.kn,by omega,fun H3 s3=>?_⟩
   have s03:=(s1.trans s2).trans s3
   refine⟨_,rfl,a,ks.map V.str,rfl,?_⟩
   rcases hL.same s03 with e | e
   ·exact .inl ⟨SqL.of e,fun l hl=>q l _ aa (s03.trans (ad hl _))⟩
   ·exact .inr ⟨SqT.of e,q a _ e s03⟩
abbrev cW:Stmt:=top 41
theorem zbl:aj lC5 lC5 (ag cW):=by walk_at "F"
inductive spKind(vs:List V)(H:Hp)(Q:VK)(e3_:XK):Prop | mk (a:Addr) (ks:List Str) (k:Str) (_:vs=[.ref a,.str k]) (_:LT H a (ks.map V.str)) (_:b6 k) (_:k∈ks) (_:∀ H',Same H H'→Q (.str k) H')
theorem wO(F:ah K mg "checked_kind" cW lC5)(Z:Bl mg)(D_is_name:Def P w K mg base "is_name" 1 lA8 spIsName):Def P w K mg base "checked_kind" 2 lC5 spKind:=by
 have SC:=zbl
 refine F.mk' (k:=1) zbl (fun vs H Q E h=>?_) (fun f cdv A outer s H vs Q E hr h=>?_)
 ·obtain⟨a,ks,k,rfl,_⟩:=h
  rfl
 ·obtain⟨a,ks,k,rfl,hL,hn,hk,q⟩:=h
  refine'⟨_,?dv,?_⟩
  case dv=>(walk_at "S2")
  refine⟨_,rfl,k,rfl,hn,fun H1 s1=>⟨true,rfl,cX ?_⟩⟩
  refine⟨_,rfl,_,rfl,a,_,rfl,(hL.same s1).sq,rfl,dF ks,_,rfl,ifF ?_ ⟨_,rfl,q _ s1⟩⟩
  rw [cF,decide_eq_true hk]
  decide
abbrev cq:Stmt:=top 40
theorem zbm:aj lC7 lC7 (ag cq):=by walk_at "F"
inductive spPlaces(vs:List V)(H:Hp)(Q:VK)(e3_:XK):Prop | mk (a b:Addr) (ks ps:List Str) (_:vs=[.ref a,.ref b]) (_:LT H a (ks.map V.str)) (_:(∀ k∈ks,b6 k)) (_:LT H b (ps.map V.str)) (_:ps.length≤2) (_:(∀ k∈ps,k∈ks)) (_:∀ t H',H' t=some (.tup (ps.map V.str))→Same H H'→Q (.ref t) H')
theorem qH(F:ah K mg "checked_places" cq lC7)(Z:Bl mg)(G:Gs K mg)(D_is_list:Def P w K mg base "is_list" 1 lA8 spIsList)(D_checked_kind:Def P w K mg base "checked_kind" 2 lC5 spKind):Def P w K mg base "checked_places" 3 lC7 spPlaces:=by
 have SC:=zbm
 obtain⟨_,g_MOST_PLACES,r_MOST_PLACES⟩:=G.mplaces
 refine F.mk' (k:=2) zbm (fun vs H Q E h=>?_) (fun f cdv A outer s H vs Q E hr h=>?_)
 ·obtain⟨a,b,ks,ps,rfl,_⟩:=h
  rfl
 ·obtain⟨a,b,ks,ps,rfl,hA,hnm,hB,h2,hin,q⟩:=h
  refine'⟨_,?dv,?_⟩
  case dv=>(have:=bG 179 17 63 1 ["kind","kinds","places"]; have:=af 8 179 56 62; walk_at "S2")
  refine⟨_,rfl,b,_,rfl,hB,fun H1 s1=>⟨true,rfl,cX ?_⟩⟩
  refine⟨_,rfl,b,_,rfl,(hB.same s1).sq,_,_,rfl,rfl,_,rfl,ifF (by rw [Yh]; simp; omega) ?_⟩
  refine(hB.same s1).over rfl fun J O=>?_
  intro cl C ex s0 H0
  refine O.comp (fun i ys H2=>ys=(ps.take i).map V.str∧Same H1 H2) ⟨rfl,Same.refl _⟩ (by rw [Yh]; exact Yn h2 (by decide)) (fun i ys H2 _ ⟨_,z⟩ o e=>z b o e) ?_ ?_
  ·rintro i x ys H2 hi hy ⟨rfl,s2⟩
   rw [YB] at hi
   obtain⟨k,hk,rfl⟩:=Yx.mp hi
   have hkp:=hin k (YD hk)
   refine⟨_,rfl,_,rfl,a,ks,k,rfl,(hA.same s1).same s2,hnm k hkp,hkp,fun H3 s3=>⟨?_,s2.trans s3⟩⟩
   rw [YL,hk,Yz]; rfl
  ·rintro ys H2 hy ⟨rfl,s2⟩ D hD
   rw [Yh,YQ]
   refine⟨D,_,rfl,.inl ⟨SqL.of aa,fun t ht=>?_⟩⟩
   exact q t _ aa ((s1.trans s2).trans ((ad hD _).trans (ad ht _)))
abbrev bL:Stmt:=top 39
theorem zbn:aj lE2 lE2 (ag bL):=by walk_at "F"
inductive spSignName(vs:List V)(H:Hp)(Q:VK)(e3_:XK):Prop | mk (k:Str) (_:vs=[.str k]) (_:kQ k) (_:∀ H',Same H H'→Q (.str k) H')
theorem kK(F:ah K mg "checked_sign_name" bL lE2)(Z:Bl mg)(G:Gs K mg)(D_is_name:Def P w K mg base "is_name" 1 lA8 spIsName):Def P w K mg base "checked_sign_name" 2 lE2 spSignName:=by
 have SC:=zbn
 obtain⟨wa,g_WORDS_OF_SAYINGS,hW⟩:=G.words
 have r_WORDS_OF_SAYINGS:aq (.ref wa) (.ref wa):=rfl
 refine F.mk' (k:=1) zbn (fun vs H Q E h=>?_) (fun f cdv A outer s H vs Q E hr h=>?_)
 ·obtain⟨k,rfl,_⟩:=h
  rfl
 ·obtain⟨k,rfl,hs,q⟩:=h
  refine'⟨_,?dv,?_⟩
  case dv=>(walk_at "S2")
  refine⟨_,rfl,k,rfl,hs.1,fun H1 s1=>⟨true,rfl,cX ?_⟩⟩
  refine⟨_,rfl,wa,_,rfl,.inr (hW _),rfl,dF sayWords,_,rfl,ifF ?_ ⟨_,rfl,q _ s1⟩⟩
  rw [cF,decide_eq_false hs.2]
  decide
abbrev dv:Stmt:=top 37
theorem zbo:aj ["kinds","tie","name","places"] lD7 (ag dv):=by walk_at "F"
def AB(ks:List Str)(nm:Str)(ps:List Str):Prop:=kQ nm∧ps.length≤2∧∀ k∈ps,k∈ks
inductive spTie(vs:List V)(H:Hp)(Q:VK)(e3_:XK):Prop | mk (a b c:Addr) (ks ps:List Str) (nm:Str) (_:vs=[.ref a,.ref b]) (_:LT H a (ks.map V.str)) (_:(∀ k∈ks,b6 k)) (_:LT H b [.str nm,.ref c]) (_:LT H c (ps.map V.str)) (_:AB ks nm ps) (_:∀ t u H',H' t=some (.tup [.str nm,.ref u])→H' u=some (.tup (ps.map V.str))→Same H H'→Q (.ref t) H')
theorem yX(F:ah K mg "checked_tie" dv lD7)(Z:Bl mg)(D_is_list:Def P w K mg base "is_list" 1 lA8 spIsList)(D_checked_sign_name:Def P w K mg base "checked_sign_name" 2 lE2 spSignName)(D_checked_places:Def P w K mg base "checked_places" 3 lC7 spPlaces):
  Def P w K mg base "checked_tie" 4 lD7 spTie:=by
 have SC:=zbo
 refine F.mk' (k:=3) zbo (fun vs H Q E h=>?_) (fun f cdv A outer s H vs Q E hr h=>?_)
 ·obtain⟨a,b,c,ks,ps,nm,rfl,_⟩:=h
  rfl
 ·obtain⟨a,b,c,ks,ps,nm,rfl,hA,hnm,hB,hC,⟨hs,h2,hin⟩,q⟩:=h
  refine'⟨_,?dv,?_⟩
  case dv=>(have:=af 9 165 4 16; walk_at "S2")
  refine⟨_,rfl,b,_,rfl,hB,fun H1 s1=>⟨true,rfl,cX ?_⟩⟩
  refine⟨_,rfl,b,_,rfl,(hB.same s1).sq,rfl,_,rfl,ifF (by simp) ?_⟩
  refine⟨_,rfl,b,_,rfl,(hB.same s1).sq,rfl,_,_,rfl,_,_,rfl,rfl,?_⟩
  refine⟨_,rfl,nm,rfl,hs,fun H2 s2=>?_⟩
  have s02:=s1.trans s2
  refine⟨_,rfl,_,rfl,a,c,ks,ps,rfl,hA.same s02,hnm,hC.same s02,h2,hin,fun u H3 hu s3=>?_⟩
  refine⟨by show 2≤sizeLine; decide,fun t ht=>?_⟩
  exact q t u _ aa (ad ht _ _ _ hu) ((s02.trans s3).trans (ad ht _))
abbrev bX:Stmt:=top 38
theorem zbp:aj ["kinds","function","name","places","kind"] lD1 (ag bX):=by walk_at "F"
inductive spFunc(vs:List V)(H:Hp)(Q:VK)(e3_:XK):Prop | mk (a b c:Addr) (ks ps:List Str) (nm kd:Str) (_:vs=[.ref a,.ref b]) (_:LT H a (ks.map V.str)) (_:(∀ k∈ks,b6 k)) (_:LT H b [.str nm,.ref c,.str kd]) (_:LT H c (ps.map V.str)) (_:AB ks nm ps) (_:kd∈ks) (_:∀ t u H',H' t=some (.tup [.str nm,.ref u,.str kd])→H' u=some (.tup (ps.map V.str))→Same H H'→Q (.ref t) H')
theorem wR(F:ah K mg "checked_function" bX lD1)(Z:Bl mg)(D_is_list:Def P w K mg base "is_list" 1 lA8 spIsList)(D_checked_sign_name:Def P w K mg base "checked_sign_name" 2 lE2 spSignName)(D_checked_places:Def P w K mg base "checked_places" 3 lC7 spPlaces)
  (D_checked_kind:Def P w K mg base "checked_kind" 2 lC5 spKind):Def P w K mg base "checked_function" 4 lD1 spFunc:=by
 have SC:=zbp
 refine F.mk' (k:=3) zbp (fun vs H Q E h=>?_) (fun f cdv A outer s H vs Q E hr h=>?_)
 ·obtain⟨a,b,c,ks,ps,nm,kd,rfl,_⟩:=h
  rfl
 ·obtain⟨a,b,c,ks,ps,nm,kd,rfl,hA,hnm,hB,hC,⟨hs,h2,hin⟩,hkd,q⟩:=h
  refine'⟨_,?dv,?_⟩
  case dv=>(have:=af 9 170 4 22; walk_at "S2")
  refine⟨_,rfl,b,_,rfl,hB,fun H1 s1=>⟨true,rfl,cX ?_⟩⟩
  refine⟨_,rfl,b,_,rfl,(hB.same s1).sq,rfl,_,rfl,ifF (by simp) ?_⟩
  refine⟨_,rfl,b,_,rfl,(hB.same s1).sq,rfl,_,_,rfl,_,_,rfl,_,_,rfl,rfl,?_⟩
  refine⟨_,rfl,nm,rfl,hs,fun H2 s2=>?_⟩
  have s02:=s1.trans s2
  refine⟨_,rfl,_,rfl,a,c,ks,ps,rfl,hA.same s02,hnm,hC.same s02,h2,hin,fun u H3 hu s3=>?_⟩
  have s03:=s02.trans s3
  refine⟨_,rfl,_,rfl,a,ks,kd,rfl,hA.same s03,hnm kd hkd,hkd,fun H4 s4=>?_⟩
  refine⟨by show 3≤sizeLine; decide,fun t ht=>?_⟩
  exact q t u _ aa (ad ht _ _ _ (s4 _ _ hu)) ((s03.trans s4).trans (ad ht _))
end
def aR(C:Addr)(H:Hp)(x:Addr)(ks:List Str)(ts:List ar)(fs:List am):Prop:=
 ∃ dx kt tt ft tv fv,H x=some (.ins C dx (flF kt tt ft))∧H kt=some (.tup (ks.map V.str))∧H tt=some (.tup tv)∧RdA Any H tv (ts.map eO)∧H ft=some (.tup fv)∧RdA Any H fv (fs.map fq)
theorem ix:∀ ws:List Str,bh (fN ws)=true
 | []=>rfl
 | x::r=>by
  show (cP (PyData.str x)&&bh (fN r))=true
  rw [ix r]; rfl
theorem sd(t:ar):cP (eO t)=true:=by
 show (true&&(bh (fN t.ps)&&true))=true
 rw [ix]; rfl
theorem uZ(t:am):cP (fq t)=true:=by
 show (true&&(bh (fN t.ps)&&(true&&true)))=true
 rw [ix]; rfl
theorem fK:∀ ts:List ar,bh (ts.map eO)=true
 | []=>rfl
 | x::r=>by
  show (cP (eO x)&&bh (r.map eO))=true
  rw [fK r,sd]; rfl
theorem i8:∀ ts:List am,bh (ts.map fq)=true
 | []=>rfl
 | x::r=>by
  show (cP (fq x)&&bh (r.map fq))=true
  rw [i8 r,uZ]; rfl
theorem aR.keep{C:Addr}{H H':Hp}{x:Addr}{ks:List Str}{ts:List ar}{fs:List am}(h:aR C H x ks ts fs)(hx:∀ o,H x=some o→H' x=some o)(ht:gp H H'):aR C H' x ks ts fs:=by
 obtain⟨dx,kt,tt,ft,tv,fv,h1,h2,h3,h4,h5,h6⟩:=h
 exact⟨dx,kt,tt,ft,tv,fv,hx _ h1,ht _ _ h2,ht _ _ h3,h4.monoT (fun _ z=>z) ht (fK ts),ht _ _ h5,h6.monoT (fun _ z=>z) ht (i8 fs)⟩
def nmD:PyData→Str
 | .tuple (.str n::_)=>n
 | _=>Str.empty
theorem wY(ts:List ar):(ts.map eO).map nmD=ts.map (·.nm):=by rw [List.map_map]; rfl
theorem wZ(ts:List am):(ts.map fq).map nmD=ts.map (·.nm):=by rw [List.map_map]; rfl
theorem vP{ts:List ar}{fs:List am}{d:PyData}(h:d∈ts.map eO++fs.map fq):∃ r,d=.tuple (.str (nmD d)::r):=by
 rcases YN.mp h with h | h
 ·obtain⟨t,_,rfl⟩:=Y7.mp h
  exact⟨_,rfl⟩
 ·obtain⟨t,_,rfl⟩:=Y7.mp h
  exact⟨_,rfl⟩
section
abbrev ky:Stmt:=f9 (top 35) 1
theorem zbq:aj lC3 lC3 (ag ky):=by walk_at "F"
inductive spTellK(C:Addr)(vs:List V)(H:Hp)(Q:VK)(e3_:XK):Prop | mk (x:Addr) (ks:List Str) (ts:List ar) (fs:List am) (_:vs=[.ref x]) (_:aR C H x ks ts fs) (_:∀ l,H l=none→Q (.ref l) (upd H l (.lst (ks.map V.str))))
theorem t5{f C:Addr}{fd:FuncData}(F:Fun K "kinds" "Signs.kinds" ky f fd)(Z:Bl mg)(T:ClS K C):cK P w K mg base CX0 1 f fd lC3 (spTellK C):=by
 have SC:=zbq
 refine F.ok zbq (fun vs H Q E h=>?_) (fun cdv A outer s H vs Q E hr h=>?_)
 ·obtain⟨x,ks,ts,fs,rfl,_⟩:=h
  rfl
 ·obtain⟨x,ks,ts,fs,rfl,⟨dx,kt,tt,ft,tv,fv,h1,h2,h3,h4,h5,h6⟩,q⟩:=h
  refine'⟨_,?dv,?_⟩
  case dv=>(walk_at "S1")
  exact⟨_,rfl,x,C,dx,_,_,rfl,h1,T.cl,T.nK,qY _ _ _,kt,_,rfl,.inr (SqT.of h2),q⟩
abbrev nI:Stmt:=f9 (top 35) 2
theorem zbr:aj lC3 lC3 (ag nI):=by walk_at "F"
inductive spTellT(C:Addr)(vs:List V)(H:Hp)(Q:VK)(e3_:XK):Prop | mk (x:Addr) (ks:List Str) (ts:List ar) (fs:List am) (_:vs=[.ref x]) (_:aR C H x ks ts fs) (_:∀ l tv,H l=none→RdA Any H tv (ts.map eO)→Q (.ref l) (upd H l (.lst tv)))
theorem tZ{f C:Addr}{fd:FuncData}(F:Fun K "ties" "Signs.ties" nI f fd)(Z:Bl mg)(T:ClS K C):cK P w K mg base CX0 1 f fd lC3 (spTellT C):=by
 have SC:=zbr
 refine F.ok zbr (fun vs H Q E h=>?_) (fun cdv A outer s H vs Q E hr h=>?_)
 ·obtain⟨x,ks,ts,fs,rfl,_⟩:=h
  rfl
 ·obtain⟨x,ks,ts,fs,rfl,⟨dx,kt,tt,ft,tv,fv,h1,h2,h3,h4,h5,h6⟩,q⟩:=h
  refine'⟨_,?dv,?_⟩
  case dv=>(walk_at "S1")
  exact⟨_,rfl,x,C,dx,_,_,rfl,h1,T.cl,T.nT,mF _ _ _,tt,_,rfl,.inr (SqT.of h3),fun l hl=>q l tv hl h4⟩
abbrev ee:Stmt:=f9 (top 35) 3
theorem zbs:aj lC3 lC3 (ag ee):=by walk_at "F"
inductive spTellF(C:Addr)(vs:List V)(H:Hp)(Q:VK)(e3_:XK):Prop | mk (x:Addr) (ks:List Str) (ts:List ar) (fs:List am) (_:vs=[.ref x]) (_:aR C H x ks ts fs) (_:∀ l fv,H l=none→RdA Any H fv (fs.map fq)→Q (.ref l) (upd H l (.lst fv)))
theorem t6{f C:Addr}{fd:FuncData}(F:Fun K "functions" "Signs.functions" ee f fd)(Z:Bl mg)(T:ClS K C):cK P w K mg base CX0 1 f fd lC3 (spTellF C):=by
 have SC:=zbs
 refine F.ok zbs (fun vs H Q E h=>?_) (fun cdv A outer s H vs Q E hr h=>?_)
 ·obtain⟨x,ks,ts,fs,rfl,_⟩:=h
  rfl
 ·obtain⟨x,ks,ts,fs,rfl,⟨dx,kt,tt,ft,tv,fv,h1,h2,h3,h4,h5,h6⟩,q⟩:=h
  refine'⟨_,?dv,?_⟩
  case dv=>(walk_at "S1")
  exact⟨_,rfl,x,C,dx,_,_,rfl,h1,T.cl,T.nF,mG _ _ _,ft,_,rfl,.inr (SqT.of h5),fun l hl=>q l fv hl h6⟩
abbrev gy:Stmt:=f9 (top 35) 0
theorem zbt:aj lB4 lB4 (ag gy):=by walk_at "F"
inductive spInit(C:Addr)(vs:List V)(H:Hp)(Q:VK)(e3_:XK):Prop | mk (x dx a b c:Addr) (ab cd:List (Addr×Addr)) (ks:List Str) (ts:List ar) (fs:List am) (_:vs=[.ref x,.ref a,.ref b,.ref c]) (_:H x=some (.ins C dx [])) (_:LT H a (ks.map V.str)) (_:LT H b (ab.map fun q=>V.ref q.1)) (_:Sgs H ab (ts.map se)) (_:LT H c (cd.map fun q=>V.ref q.1)) (_:Sgs H cd (fs.map u3)) (_:aV ks ts fs) (_:∀ H',aR C H' x ks ts fs→ax x H H'→Q .non H')
theorem LT.neIns{H:Hp}{a x C dx:Addr}{xs:List V}{fl:List (Str×V)}(h:LT H a xs)(hx:H x=Option.some (.ins C dx fl)):a≠x:=by
 rintro rfl
 rcases h with h | h <;> (rw [h] at hx; cases hx)
theorem wQ{f C:Addr}{fd:FuncData}(F:Fun K "__init__" "Signs.__init__" gy f fd)(Z:Bl mg)(G:Gs K mg)(T:ClS K C)(D_is_list:Def P w K mg base "is_list" 1 lA8 spIsList)(D_checked_kinds:Def P w K mg base "checked_kinds" 2 lE3 spKinds)
  (D_checked_tie:Def P w K mg base "checked_tie" 4 lD7 spTie) (D_checked_function:Def P w K mg base "checked_function" 4 lD1 spFunc) (D_check_apart:Def P w K mg base "check_apart" 1 lD9 spApart) :
  cK P w K mg base CX0 5 f fd lB4 (spInit C):=by
 have SC:=zbt
 obtain⟨_,g_MOST_SIGNS,r_MOST_SIGNS⟩:=G.msigns
 refine F.ok zbt (fun vs H Q E h=>?_) (fun cdv A outer s H vs Q E hr h=>?_)
 ·obtain⟨x,dx,a,b,c,ab,cd,ks,ts,fs,rfl,_⟩:=h
  rfl
 ·obtain⟨x,dx,a,b,c,ab,cd,ks,ts,fs,rfl,hx,hA,hB,sB,hC,sC,ok,q⟩:=h
  have nbx:b≠x:=hB.neIns hx
  have ncx:c≠x:=hC.neIns hx
  have abl:ab.length=ts.length:=by rw [sB.length,Yh]
  have cdl:cd.length=fs.length:=by rw [sC.length,Yh]
  have sl:=ok.sl
  have sgx:∀ {H':Hp} {q:Addr×Addr} {r:li},ax x H H'→xC H q r→xC H' q r:=fun s g=>⟨g.row.mono fun o e=>s _ _ (g.row.neIns hx) e,g.plc.mono fun o e=>s _ _ (g.plc.neIns hx) e⟩
  refine'⟨_,?dv,?_⟩
  case dv=>(have:=af 10 144 21 28; have:=af 11 144 41 77; have:=bG 142 31 82 1 ["tie","self","kinds","ties","functions"]; have:=bG 143 36 107 1 ["function","self","kinds","ties","functions"]; have:=bG 144 20 78 1 ["sign","self","kinds","ties","functions"]; have:=af 8 142 77 81; have:=af 8 143 97 106; have:=af 12 144 41 77; walk_at "S2")
  refine⟨_,rfl,a,ks,rfl,hA,⟨ok.kn,ok.k1,ok.k4,ok.kn2⟩,fun kt H1 hkt s1=>?_⟩
  refine⟨_,rfl,x,C,dx,_,rfl,s1 _ _ hx,T.cl,T.nK,by decide,?_⟩
  have nkx:kt≠x:=by rintro rfl; rw [s1 _ _ hx] at hkt; cases hkt
  generalize hG2:upd H1 x (.ins C dx (aT "kept_kinds" (.ref kt) []))=H2
  have x2:H2 x=some (.ins C dx (flK kt)):=by rw [← hG2]; exact aa
  have k2:H2 kt=some (.tup (ks.map V.str)):=by rw [← hG2,ac nkx]; exact hkt
  have S2:ax x H H2:=by rw [← hG2]; exact s1.x.trans (ax.upd x H1 _)
  refine⟨_,rfl,b,_,rfl,hB.mono fun o e=>S2 _ _ nbx e,fun H3 s3=>⟨true,rfl,cX ?_⟩⟩
  have S3:=S2.same s3
  refine⟨_,rfl,c,_,rfl,hC.mono fun o e=>S3 _ _ ncx e,fun H4 s4=>⟨true,rfl,cX ?_⟩⟩
  have S4:=S3.same s4
  refine⟨_,rfl,b,_,rfl,(hB.mono fun o e=>S4 _ _ nbx e).sq,_,rfl,c,_,rfl,(hC.mono fun o e=>S4 _ _ ncx e).sq,_,_,rfl,rfl,_,_,rfl,rfl,_,rfl,ifF (by rw [Yh,Yh]; simp; omega) ?_⟩
  have s24:Same H2 H4:=s3.trans s4
  refine(hB.mono fun o e=>S4 _ _ nbx e).over rfl fun J O=>?_
  intro cl C1 ex s0 H0
  refine O.comp (fun i ys H5=>RdA Any H5 ys ((ts.take i).map eO)∧Same H4 H5) ⟨.nil,Same.refl _⟩ (by rw [Yh]; exact Yn (show ab.length≤8 by omega) (by decide)) (fun i ys H5 _ ⟨_,z⟩ o e=>z b o e) ?_ ?_
  ·rintro i y ys H5 hi hy ⟨r5,s5⟩
   rw [YB] at hi
   obtain⟨qq,hq,rfl⟩:=Yx.mp hi
   obtain⟨r,hr',sg⟩:=sB.get hq
   rw [YB] at hr'
   obtain⟨t,ht,rfl⟩:=Yx.mp hr'
   have s25:=s24.trans s5
   have sg5:=sgx (S4.same s5) sg
   refine⟨_,rfl,x,C,dx,_,_,rfl,s25 _ _ x2,T.cl,T.nK,jY _,_,rfl,kt,qq.1,qq.2,ks,t.ps,t.nm,rfl,.inr (s25 _ _ k2),ok.kn2,sg5.row,sg5.plc,ok.tn t (YD ht),fun tt u H6 h6 h7 s6=>⟨?_,s5.trans s6⟩⟩
   rw [YL,ht]
   show RdA Any H6 (ys++[.ref tt]) (List.map eO (ts.take i++[t]))
   rw [Yz]
   exact(r5.same s6).snoc (.tup trivial h6 (.cons (.str _) (.cons (.tup trivial h7 (RdA.strs _)) .nil)))
  rintro tv H5 hy ⟨r5,s5⟩ D1 hD1
  rw [Yh,abl,YQ] at r5
  refine⟨D1,tv,rfl,.inl ⟨SqL.of aa,fun tt htt=>?_⟩⟩
  have s6:=(ad hD1 (.lst tv)).trans (ad htt (.tup tv))
  have s26:=(s24.trans s5).trans s6
  refine⟨_,rfl,x,C,dx,_,rfl,s26 _ _ x2,T.cl,T.nT,xi _,?_⟩
  have tt6:(upd (upd H5 D1 (.lst tv)) tt (.tup tv)) tt=some (.tup tv):=aa
  generalize (upd (upd H5 D1 (.lst tv)) tt (.tup tv))=G6 at s6 s26 tt6
  have ntx:tt≠x:=by rintro rfl; rw [s26 _ _ x2] at tt6; cases tt6
  generalize hG7:upd G6 x (.ins C dx (aT "kept_ties" (.ref tt) (flK kt)))=H7
  have x7:H7 x=some (.ins C dx (flT kt tt)):=by rw [← hG7]; exact aa
  have S67:ax x G6 H7:=by rw [← hG7]; exact ax.upd x G6 _
  have t7:H7 tt=some (.tup tv):=S67 _ _ ntx tt6
  have k7:H7 kt=some (.tup (ks.map V.str)):=S67 _ _ nkx (s26 _ _ k2)
  have S7:ax x H H7:=(S2.same s26).trans S67
  have T67:gp G6 H7:=fun p xs e=>S67 p _ (fun z=>by rw [z,s26 _ _ x2] at e; cases e) e
  have r7:RdA Any H7 tv (ts.map eO):=(r5.same s6).monoT (fun _ z=>z) T67 (fK ts)
  refine(hC.mono fun o e=>S7 _ _ ncx e).over rfl fun J O=>?_
  intro cl C1 ex s0 H0
  refine O.comp (fun i ys H8=>RdA Any H8 ys ((fs.take i).map fq)∧Same H7 H8) ⟨.nil,Same.refl _⟩ (by rw [Yh]; exact Yn (show cd.length≤8 by omega) (by decide)) (fun i ys H8 _ ⟨_,z⟩ o e=>z c o e) ?_ ?_
  ·rintro i y ys H8 hi hy ⟨r8,s8⟩
   rw [YB] at hi
   obtain⟨qq,hq,rfl⟩:=Yx.mp hi
   obtain⟨r,hr',sg⟩:=sC.get hq
   rw [YB] at hr'
   obtain⟨t,ht,rfl⟩:=Yx.mp hr'
   have sg8:=sgx (S7.same s8) sg
   obtain⟨o1,o2,o3,o4⟩:=ok.fn t (YD ht)
   refine⟨_,rfl,x,C,dx,_,_,rfl,s8 _ _ x7,T.cl,T.nK,jX _ _,_,rfl,kt,qq.1,qq.2,ks,t.ps,t.nm,t.kd,rfl,.inr (s8 _ _ k7),ok.kn2,sg8.row,sg8.plc,⟨o1,o2,o3⟩,o4,fun tt u H9 h6 h7 s9=>⟨?_,s8.trans s9⟩⟩
   rw [YL,ht]
   show RdA Any H9 (ys++[.ref tt]) (List.map fq (fs.take i++[t]))
   rw [Yz]
   exact(r8.same s9).snoc (.tup trivial h6 (.cons (.str _) (.cons (.tup trivial h7 (RdA.strs _)) (.cons (.str _) .nil))))
  rintro fv H8 hy2 ⟨r8,s8⟩ D2 hD2
  rw [Yh,cdl,YQ] at r8
  refine⟨D2,fv,rfl,.inl ⟨SqL.of aa,fun ft hft=>?_⟩⟩
  have s9:=s8.trans ((ad hD2 (.lst fv)).trans (ad hft (.tup fv)))
  have r9:=r8.same ((ad hD2 (.lst fv)).trans (ad hft (.tup fv)))
  refine⟨_,rfl,x,C,dx,_,rfl,s9 _ _ x7,T.cl,T.nF,xh _ _,?_⟩
  have ft9:(upd (upd H8 D2 (.lst fv)) ft (.tup fv)) ft=some (.tup fv):=aa
  generalize (upd (upd H8 D2 (.lst fv)) ft (.tup fv))=G9 at s9 r9 ft9
  have nfx:ft≠x:=by rintro rfl; rw [s9 _ _ x7] at ft9; cases ft9
  generalize hG10:upd G9 x (.ins C dx (aT "kept_functions" (.ref ft) (flT kt tt)))=HA
  have xA:HA x=some (.ins C dx (flF kt tt ft)):=by rw [← hG10]; exact aa
  have S9A:ax x G9 HA:=by rw [← hG10]; exact ax.upd x G9 _
  have T9A:gp G9 HA:=fun p xs e=>S9A p _ (fun z=>by rw [z,s9 _ _ x7] at e; cases e) e
  have tA:HA tt=some (.tup tv):=S9A _ _ ntx (s9 _ _ t7)
  have fA:HA ft=some (.tup fv):=S9A _ _ nfx ft9
  have kA:HA kt=some (.tup (ks.map V.str)):=S9A _ _ nkx (s9 _ _ k7)
  have rtA:RdA Any HA tv (ts.map eO):=(r7.same s9).monoT (fun _ z=>z) T9A (fK ts)
  have rfA:RdA Any HA fv (fs.map fq):=r9.monoT (fun _ z=>z) T9A (i8 fs)
  have SA:ax x H HA:=(S7.same s9).trans S9A
  have tvl:tv.length=ts.length:=by rw [rtA.length,Yh]
  have fvl:fv.length=fs.length:=by rw [rfA.length,Yh]
  have small:tv.length+fv.length≤sizeLine:=Yn (show tv.length+fv.length≤8 by omega) (by decide)
  refine⟨_,rfl,x,C,dx,_,_,rfl,xA,T.cl,T.nT,mF _ _ _,_,rfl,x,C,dx,_,_,rfl,xA,T.cl,T.nF,mG _ _ _,?_⟩
  refine kW tA fA small fun p HB hp sB'=>?_
  refine⟨p,rfl,⟨_,SqT.of hp⟩,?_⟩
  have rB:RdA Any HB (tv++fv) (ts.map eO++fs.map fq):=(rtA.append rfA).same sB'
  intro cl C1 ex s0 H0
  refine bH (tv++fv).length (fun i ys HC=>ys=(((ts.map eO++fs.map fq).map nmD).take i).map V.str∧Same HB HC) (fun i y=>(tv++fv)[i]? = some y) ⟨rfl,Same.refl _⟩ (by rw [Yw]; exact small) (fun i ys HC hi _ ⟨_,z⟩=>om (SqT.of (z _ _ hp)) hi) (fun ys HC _ ⟨_,z⟩=>iz (SqT.of (z _ _ hp))) ?_ ?_
  ·rintro i y ys HC hi hy _ ⟨rfl,sC'⟩
   obtain⟨d,hd,rd⟩:=rB.getV hy
   obtain⟨rr,e⟩:=vP (YD hd)
   rw [e] at rd
   obtain⟨py,px,rfl,_,hpy,hpx⟩:=rd.tuple_inv
   cases hpx with | cons a1 t1=>
   obtain rfl:=a1.str_inv
   refine⟨_,rfl,py,_,_,_,rfl,rfl,SqT.of (sC' _ _ hpy),aK (x:=V.str (nmD d)) (by decide) rfl,?_,sC'⟩
   rw [YL,YB,hd]
   exact(Yz (l₂:=[nmD d])).symm
  rintro ys HC hyl ⟨rfl,sC'⟩ D3 hD3
  have el:(((ts.map eO++fs.map fq).map nmD).take (tv++fv).length)=ts.map (·.nm)++fs.map (·.nm):=by
   rw [Yz,wY,wZ,YF]
   simp [tvl,fvl]
  rw [el]
  refine⟨D3,_,rfl,.inl aa,ok.sn,by simp; omega,fun HD sD=>?_⟩
  have sAD:Same HA HD:=(sB'.trans sC').trans ((ad hD3 _).trans sD)
  refine q HD ⟨dx,kt,tt,ft,tv,fv,sAD _ _ xA,sAD _ _ kA,sAD _ _ tA,rtA.same sAD,sAD _ _ fA,rfA.same sAD⟩ (SA.same sAD)
end
inductive Tr where
 | leaf (x:Str)
 | node (ts:List Tr)
mutual
inductive Tup(H:Hp):V→Tr→Prop where
 | leaf (x:Str):Tup H (.str x) (.leaf x)
 | node {a:Addr} {xs:List V} {ts:List Tr}:H a=some (.tup xs)→df H xs ts→Tup H (.ref a) (.node ts)
inductive df(H:Hp):List V→List Tr→Prop where
 | nil:df H [] []
 | cons {x:V} {xs:List V} {t:Tr} {ts:List Tr}:Tup H x t→df H xs ts→df H (x::xs) (t::ts)
end
mutual
theorem dz{H H':Hp}(s:gp H H'):∀ {v:V} {t:Tr},Tup H v t→Tup H' v t
 | _,_,.leaf x=>.leaf x
 | _,_,.node h r=>.node (s _ _ h) (cp s r)
theorem cp{H H':Hp}(s:gp H H'):∀ {v:List V} {t:List Tr},df H v t→df H' v t
 | _,_,.nil=>.nil
 | _,_,.cons a r=>.cons (dz s a) (cp s r)
end
theorem df.length{H:Hp}:∀ {v:List V} {t:List Tr},df H v t→v.length=t.length
 | _,_,.nil=>rfl
 | _,_,.cons _ r=>by rw [Ys,Ys,df.length r]
theorem df.snoc{H:Hp}{x:V}{y:Tr}:∀ {v:List V} {t:List Tr},df H v t→Tup H x y→df H (v++[x]) (t++[y])
 | _,_,.nil,h=>.cons h .nil
 | _,_,.cons a r,h=>.cons a (df.snoc r h)
mutual
inductive oM(fs:List am)(sc:Str→Option Str):Tr→Str→Prop where
 | var {x k:Str}:sc x=some k→oM fs sc (.leaf x) k
 | app {f:am} {ts:List Tr}:f∈fs→dI fs sc ts f.ps→oM fs sc (.node (.leaf f.nm::ts)) f.kd
inductive dI(fs:List am)(sc:Str→Option Str):List Tr→List Str→Prop where
 | nil:dI fs sc [] []
 | cons {t:Tr} {k:Str} {ts:List Tr} {ks:List Str}:oM fs sc t k→dI fs sc ts ks→dI fs sc (t::ts) (k::ks)
end
def dY(sc:Str→Option Str)(x k:Str):Str→Option Str:=fun y=>if y=x then some k else sc y
mutual
inductive fF(ks:List Str)(ts:List ar)(fs:List am):(Str→Option Str)→Tr→Prop where
 | eq {sc:Str→Option Str} {a b:Tr} {k:Str}:oM fs sc a k→oM fs sc b k→fF ks ts fs sc (.node [.leaf "=",a,b])
 | not {sc:Str→Option Str} {a:Tr}:fF ks ts fs sc a→fF ks ts fs sc (.node [.leaf "not",a])
 | conn {sc:Str→Option Str} {w:Str} {l:List Tr}:w="and"∨w="or"→l.length≤50→eV ks ts fs sc l→fF ks ts fs sc (.node (.leaf w::l))
 | bind {sc:Str→Option Str} {w x k:Str} {a:Tr}:w="all"∨w="some"→b6 x→k∈ks→fF ks ts fs (dY sc x k) a→fF ks ts fs sc (.node [.leaf w,.leaf x,.leaf k,a])
 | tie {sc:Str→Option Str} {t:ar} {l:List Tr}:t∈ts→dI fs sc l t.ps→fF ks ts fs sc (.node (.leaf t.nm::l))
inductive eV(ks:List Str)(ts:List ar)(fs:List am):(Str→Option Str)→List Tr→Prop where
 | nil {sc:Str→Option Str}:eV ks ts fs sc []
 | cons {sc:Str→Option Str} {a:Tr} {l:List Tr}:fF ks ts fs sc a→eV ks ts fs sc l→eV ks ts fs sc (a::l)
end
mutual
def dep:Tr→Nat
 | .leaf _=>0
 | .node ts=>1+cQ ts
def cQ:List Tr→Nat
 | []=>0
 | t::ts=>max (dep t) (cQ ts)
end
theorem jd{t:Tr}:∀ {ts:List Tr},t∈ts→dep t≤cQ ts
 | x::r,h=>by
  show dep t≤max (dep x) (cQ r)
  rcases Yr.mp h with rfl | h
  ·exact Nat.le_max_left _ _
  ·exact Yn (jd h) (Nat.le_max_right _ _)
theorem dI.length{fs:List am}{sc:Str→Option Str}:∀ {ts:List Tr} {ks:List Str},dI fs sc ts ks→ts.length=ks.length
 | _,_,.nil=>rfl
 | _,_,.cons _ r=>by rw [Ys,Ys,dI.length r]
def lh(H:Hp)(a:Addr)(sc:Str→Option Str):Prop:=∃ kvs:List (Key×V),H a=some (.dK kvs)∧kvs.length≤100∧∀ x:Str,aW kvs (.inr x)=(sc x).map V.str
theorem lh.same{H H':Hp}{a:Addr}{sc:Str→Option Str}(h:lh H a sc)(s:Same H H'):lh H' a sc:=let ⟨kvs,e,r⟩:=h; ⟨kvs,s _ _ e,r⟩
mutual
def wr:Tr→Str
 | .leaf x=>x
 | .node ts=>(("(":Str)++Str.join " " (wrA ts))++")"
def wrA:List Tr→List Str
 | []=>[]
 | t::ts=>wr t::wrA ts
end
theorem rN:∀ ts:List Tr,wrA ts=ts.map wr
 | []=>by rw [wrA]; rfl
 | t::ts=>by rw [wrA,rN ts]; rfl
theorem aJ(a b:Str):(a++b).length=a.length+b.length:=by
 show (a.cps++b.cps).size=a.cps.size+b.cps.size
 simp
theorem i0:∀ ts:List Str,(ts.map (·.length)).sum+ts.length≤(Str.join " " ts).length+1
 | []=>by simp
 | [x]=>by
  show x.length+0+1≤x.length+1
  omega
 | x::y::r=>by
  have ih:=i0 (y::r)
  have e:(Str.join " " (x::y::r)).length=x.length+1+(Str.join " " (y::r)).length:=by
   show (x++(" ":Str)++Str.join " " (y::r)).length=_
   rw [aJ,aJ]; rfl
  rw [e,YA,YW,Ys]
  omega
theorem ke(ts:List Tr):wr (.node ts)=(("(":Str)++Str.join " " (ts.map wr))++")":=by rw [wr,rN]
theorem ik(ts:List Tr):(wr (.node ts)).length=(Str.join " " (ts.map wr)).length+2:=by
 rw [ke,aJ,aJ]
 show 1+_+1=_
 omega
theorem df.get{H:Hp}:∀ {v:List V} {t:List Tr} {i:Nat} {x:V},df H v t→v[i]? = some x→∃ y,t[i]? = some y∧Tup H x y
 | _,_,_,_,.nil,h=>by simp at h
 | _,_,0,_,.cons a _,h=>by simp at h; subst h; exact⟨_,rfl,a⟩
 | _,_,i+1,_,.cons _ r,h=>by simpa using df.get (i:=i) r (by simpa using h)
section
abbrev dD:Stmt:=top 27
theorem zbu:aj lA8 lA8 (ag dD):=by walk_at "F"
inductive spWr(n:Nat)(vs:List V)(H:Hp)(Q:VK)(e3_:XK):Prop | mk (v:V) (t:Tr) (_:vs=[v]) (_:Tup H v t) (_:dep t≤n) (_:(wr t).length≤1000000) (_:∀ H',Same H H'→Q (.str (wr t)) H')
def jA:Nat→Sp
 | 0=>fun _ _ _ _=>False
 | n+1=>spWr n
theorem ly{m:Nat}{vs:List V}{H:Hp}{Q:VK}{E:XK}(h:spWr m vs H Q E):jA (m+1) vs H Q E:=h
theorem lP(F:ah K mg "written" dD lA8)(Z:Bl mg)(n:Nat)(D_written:Def P w K mg base "written" (n+1) lA8 (jA n)):Def P w K mg base "written" (n+2) lA8 (spWr n):=by
 have SC:=zbu
 refine F.mk' (k:=n+1) zbu (fun vs H Q E h=>?_) (fun f cdv A outer s H vs Q E hr h=>?_)
 ·obtain⟨v,t,rfl,_⟩:=h
  rfl
 ·obtain⟨v,t,rfl,ht,hn,hw,q⟩:=h
  refine'⟨_,?dv,?_⟩
  case dv=>(have:=af 2 104 7 29; have:=af 13 106 11 66; have:=af 13 106 11 60; have:=af 14 106 17 60; have:=bG 106 26 59 1 ["part","thing"]; have:=af 8 106 53 58; walk_at "S2")
  cases ht with
  | leaf x=>exact⟨_,rfl,_,_,_,rfl,.str _,iY K,true,rfl,ifT rfl ⟨_,rfl,by have:=q H (Same.refl _); rwa [wr] at this⟩⟩
  | node h r=>
   rename_i a xs ts
   have hd:dep (.node ts)=1+cQ ts:=rfl
   rw [hd] at hn
   obtain⟨m,rfl⟩:∃ m,n=m+1:=⟨n-1,by omega⟩
   rw [ik] at hw
   have js:=i0 (ts.map wr)
   rw [Yh] at js
   have rl:=r.length
   refine⟨_,rfl,_,_,false,rfl,.tup h,rfl,false,rfl,cX ?_⟩
   refine⟨rfl,?_⟩
   refine(show LT H a xs from .inr h).over rfl fun J O=>?_
   intro cl C1 ex s0 H0
   refine O.comp (fun i ys H4=>ys=((ts.map wr).take i).map V.str∧Same H H4) ⟨rfl,Same.refl _⟩ (Yn (show xs.length≤1000001 by omega) (by decide)) (fun i ys H4 _ ⟨_,z⟩ o e=>z _ _ e) ?_ ?_
   ·rintro i y ys H4 hi hy ⟨rfl,s4⟩
    obtain⟨t,ht,tt⟩:=r.get hi
    have dt:=jd (YD ht)
    have lt:=join_mem_le " " (ts.map wr) (wr t) (Y7.mpr ⟨t,YD ht,rfl⟩)
    refine⟨_,rfl,?_⟩
    unfold eY
    refine ly ⟨y,t,rfl,dz (Same.tups s4) tt,by omega,by omega,fun H5 s5=>⟨?_,s4.trans s5⟩⟩
    rw [YL,YB,ht]
    exact(Yz (l₂:=[wr t])).symm
   ·rintro ys H4 hy ⟨rfl,s4⟩ D hD
    have el:(ts.map wr).take xs.length=ts.map wr:=YF (by rw [Yh]; omega)
    rw [el]
    refine⟨_,D,ts.map wr,rfl,rfl,SqL.of aa,PyProof.Rows.joinOk_of_weight (by rw [Yh]; omega) (by decide),?_⟩
    have l1:("(":Str).length=1:=rfl
    have l2:(")":Str).length=1:=rfl
    refine⟨_,_,rfl,rfl,Yn (show ("(":Str).length+_≤1000002 by omega) (by decide),?_⟩
    refine⟨_,_,rfl,rfl,Yn (show _+(")":Str).length≤1000004 by rw [aJ]; omega) (by decide),?_⟩
    rw [← ke]
    exact q _ (s4.trans (ad hD _))
theorem yV(F:ah K mg "written" dD lA8):Def P w K mg base "written" 1 lA8 (jA 0):=
 F.mk' (k:=0) zbu (fun vs H Q E h=>False.elim h) fun f cdv A outer s H vs Q E hr h=>False.elim h
theorem xQ(F:ah K mg "written" dD lA8)(Z:Bl mg):∀ n,Def P w K mg base "written" (n+2) lA8 (spWr n)
 | 0=>lP F Z 0 (yV F)
 | n+1=>lP F Z (n+1) (xQ F Z n)
end
structure ScL(H:Hp)(a:Addr)(ps:List (Str×Str)):Prop where
 ex:∃ bs:List Addr,H a=some (.lst (bs.map V.ref))∧Paired (fun b q=>H b=some (.tup [.str q.1,.str q.2])) bs ps
def bQ(ps:List (Str×Str)):Str→Option Str:=ps.foldl (fun S q=>dY S q.1 q.2) fun _=>none
theorem iS{α β:Type}{F:α→β→Prop}:∀ {a:List α} {b:List β} {i:Nat} {x:α},Paired F a b→a[i]? = some x→∃ y,b[i]? = some y∧F x y
 | _,_,_,_,.nil,h=>by simp at h
 | _,_,0,_,.cons f _,h=>by simp at h; subst h; exact⟨_,rfl,f⟩
 | _,_,i+1,_,.cons _ r,h=>by simpa using iS (i:=i) r (by simpa using h)
theorem nY{ps:List (Str×Str)}{i:Nat}{q:Str×Str}(h:ps[i]? = some q):bQ (ps.take (i+1))=dY (bQ (ps.take i)) q.1 q.2:=by
 unfold bQ
 rw [YL,h,Option.toList_some,List.foldl_append]
 rfl
theorem uL{kvs:List (Key×V)}{k:Key}{v:V}{q:Key×V}(h:q∈cr kvs k v):q.1=k∨∃ r∈kvs,r.1=q.1:=by
 unfold cr at h
 split at h
 ·obtain⟨r,hr,e⟩:=Y7.mp h
  refine .inr ⟨r,hr,?_⟩
  rw [← e]
  split <;> rfl
 ·rcases YN.mp h with h | h
  ·exact .inr ⟨q,h,rfl⟩
  ·rw [Yp.mp h]; exact .inl rfl
def ScM(H:Hp)(d:Addr)(S:Str→Option Str)(n:Nat):Prop:=∃ kvs:List (Key×V),H d=some (.dK kvs)∧kvs.length≤n∧(∀ x:Str,aW kvs (.inr x)=(S x).map V.str)∧∀ q∈kvs,∃ x k,q.1=.inr x∧S x=some k
theorem ScM.put{H:Hp}{d:Addr}{S:Str→Option Str}{n:Nat}{kvs:List (Key×V)}(e2:∀ x:Str,aW kvs (.inr x)=(S x).map V.str)(e3:∀ q∈kvs,∃ x k,q.1=.inr x∧S x=some k)(el:kvs.length≤n)(xn kd:Str):ScM (upd H d (.dK (cr kvs (.inr xn) (.str kd)))) d (dY S xn kd) (n+1):=by
 refine⟨_,aa,Yn (bE _ _ _) (by omega),fun y=>?_,fun q hq=>?_⟩
 ·rw [d6]
  unfold dY
  by_cases hy:y=xn
  ·rw [if_pos (by rw [hy]),if_pos hy]; rfl
  ·rw [if_neg (fun z=>hy (Sum.inr.inj z)),if_neg hy]; exact e2 y
 ·rcases uL hq with e | ⟨r,hr,e⟩
  ·exact⟨xn,kd,e,by unfold dY; rw [if_pos rfl]⟩
  ·obtain⟨x,k,ex,ek⟩:=e3 r hr
   rw [← e]
   by_cases hy:x=xn
   ·exact⟨x,kd,ex,by unfold dY; rw [if_pos hy]⟩
   ·exact⟨x,k,ex,by unfold dY; rw [if_neg hy]; exact ek⟩
section
abbrev d9:Stmt:=top 49
theorem zbv:aj ["_law_scope","_law_made","_law_name_here","_law_kind"] lD8 (ag d9):=by walk_at "F"
inductive spMeant(vs:List V)(H:Hp)(Q:VK)(e3_:XK):Prop | mk (a:Addr) (ps:List (Str×Str)) (_:vs=[.ref a]) (_:ScL H a ps) (_:ps.length≤3) (_:∀ d H',ScM H' d (bQ ps) ps.length→Same H H'→H d=none→Q (.ref d) H')
theorem uf(F:ah K mg "_law_meant" d9 lD8)(Z:Bl mg):Def P w K mg base "_law_meant" 1 lD8 spMeant:=by
 have SC:=zbv
 refine F.mk' (k:=0) zbv (fun vs H Q E h=>?_) (fun f cdv A outer s H vs Q E hr h=>?_)
 ·obtain⟨a,ps,rfl,_⟩:=h
  rfl
 ·obtain⟨a,ps,rfl,⟨bs,ha,hp⟩,hl,q⟩:=h
  refine'⟨_,?dv,?_⟩
  case dv=>(have:=af 15 220 8 45; walk_at "S2")
  refine fun d hd=>?_
  have s1:=ad hd (.dK [])
  have pl:=Paired.length hp
  refine⟨_,rfl,a,rfl,⟨_,SqL.of (s1 _ _ ha)⟩,?_⟩
  refine ge (K:=K) (a:=a) (xs:=bs.map V.ref) (fun i σ H2=>∃ (v2 v3:Option V),σ=[some (.ref a),some (.ref d),v2,v3]∧Same H H2∧ScM H2 d (bQ (ps.take i)) i)
   ⟨_,_,rfl,s1,[],aa,Yg _,fun _=>rfl,fun _ z=>nomatch z⟩ (by rintro i σ H2 _ ⟨_,_,_,y,_⟩;exact SqL.of (y _ _ ha)) ?_ ?_
  ·rintro i y σ H2 hi ⟨v2,v3,rfl,s2,kvs,e1,el,e2,e3⟩
   rw [YB] at hi
   obtain⟨b,hb,rfl⟩:=Yx.mp hi
   obtain⟨pr,hpr,hat⟩:=iS hp hb
   have hil:i<ps.length:=(Yv.mp hpr).1
   refine⟨b,_,rfl,SqT.of (s2 _ _ hat),rfl,_,_,rfl,_,_,rfl,rfl,?_⟩
   refine⟨_,rfl,_,rfl,_,rfl,d,_,rfl,oO.k (k:=.inr pr.1) e1 (YI (show kvs.length≤100 by omega) (by decide)),?_⟩
   refine⟨_,_,rfl,fun c o e=>by rw [ac (ae e hd)]; exact s2 c o e,?_⟩
   rw [nY hpr]
   exact ScM.put e2 e3 el _ _
  ·rintro σ H2 ⟨v2,v3,rfl,s2,m2⟩
   rw [Yh,pl,YQ] at m2
   exact⟨_,rfl,q d H2 m2 s2 hd⟩
end
mutual
inductive Lk:Tr→PyData→Prop where
 | leaf (x:Str):Lk (.leaf x) (.str x)
 | lst {ts:List Tr} {ds:List PyData}:LkA ts ds→Lk (.node ts) (.list ds)
 | tup {ts:List Tr} {ds:List PyData}:LkA ts ds→Lk (.node ts) (.tuple ds)
inductive LkA:List Tr→List PyData→Prop where
 | nil:LkA [] []
 | cons {t:Tr} {d:PyData} {ts:List Tr} {ds:List PyData}:Lk t d→LkA ts ds→LkA (t::ts) (d::ds)
end
mutual
theorem zbw:∀ {t:Tr} {d:PyData},Lk t d→d.showable=true
 | _,_,.leaf x=>by simp only [PyData.showable]
 | _,_,.lst r=>by simp only [PyData.showable]; exact dR r
 | _,_,.tup r=>by simp only [PyData.showable]; exact dR r
theorem dR:∀ {t:List Tr} {d:List PyData},LkA t d→PyData.showableAll d=true
 | _,_,.nil=>by simp only [PyData.showableAll]
 | _,_,.cons h r=>by simp only [PyData.showableAll,zbw h,dR r,Bool.and_self]
end
section
abbrev cU:Stmt:=top 50
theorem zbx:aj ["_law_pot_here","_law_scope","_law_kind","_law_meant_here","_law_names"] lB2 (ag cU):=by walk_at "F"
inductive spVar(vs:List V)(H:Hp)(Q:VK)(e3_:XK):Prop | mk (p a:Addr) (ps:List (Str×Str)) (kd:Str) (_:vs=[.ref p,.ref a,.str kd]) (_:bJ H p) (_:ScL H a ps) (_:ps.length≤3) (_:∀ v H',(v=.non∨∃ x,v=.str x∧bQ ps x=some kd)→av p H H'→Q v H')
theorem yW(F:ah K mg "_law_variable" cU lB2)(Z:Bl mg)(D_law_draw:Def P w K mg base "_law_draw" 1 lA6 spDraw)(D_law_meant:Def P w K mg base "_law_meant" 1 lD8 spMeant):Def P w K mg base "_law_variable" 2 lB2 spVar:=by
 have SC:=zbx
 refine F.mk' (k:=1) zbx (fun vs H Q E h=>?_) (fun f cdv A outer s H vs Q E hr h=>?_)
 ·obtain⟨p,a,ps,kd,rfl,_⟩:=h
  rfl
 ·obtain⟨p,a,ps,kd,rfl,hp,hs,hl,q⟩:=h
  refine'⟨_,?dv,?_⟩
  case dv=>(have:=af 16 225 7 23; have:=af 17 224 74 105; have:=af 18 224 55 70; have:=af 19 224 4 119; have:=bG 224 4 119 1 ["_law_name_here","_law_pot_here","_law_scope","_law_kind","_law_meant_here","_law_names"]; have:=af 20 225 7 23; walk_at "S2")
  refine⟨_,rfl,a,ps,rfl,hs,hl,fun d H1 hm s1 hd=>?_⟩
  obtain⟨kvs,e1,el,e2,e3⟩:=hm
  refine⟨d,kvs,e1,fun ob=>?_⟩
  have lz:kvs.length≤sizeLine:=Yn (show kvs.length≤3 by omega) (by decide)
  generalize hF:upd H1 d (.frz ob (.dK kvs))=HF
  have eF:HF d=some (.frz ob (.dK kvs)):=by rw [← hF]; exact aa
  refine⟨_,rfl,d,ob,kvs,rfl,eF,fun cl C ex s0 Hc=>?_⟩
  refine⟨fun i m ys σ' H2=>H2=HF∧m=kvs.length-i∧i≤kvs.length∧ys.length≤i∧(∃ v0,σ'=[v0,some (.ref p),some (.ref a),some (.str kd),some (.ref d),none])∧∀ y∈ys,∃ x,y=.str x∧bQ ps x=some kd,⟨_,rfl,rfl,Yy _,Yg _,⟨_,rfl⟩,fun _ z=>nomatch z⟩,?_⟩
  rintro i m ys σ' H2 ⟨rfl,rfl,hi,hy,⟨v0,rfl⟩,hall⟩
  by_cases hlt:i<kvs.length
  ·refine .inr ⟨⟨kvs,eF,hlt⟩,by omega,fun x H' hyl=>?_⟩
   obtain⟨rfl,hx⟩:=hyl
   obtain⟨kv,ek,rfl⟩:=hx kvs eF
   obtain⟨z,k,ez,hz⟩:=e3 kv (YD ek)
   rw [ez]
   have hv:aW kvs (.inr z)=some (.str k):=by rw [e2,hz]; rfl
   refine⟨_,rfl,_,rfl,d,.str k,rfl,?_,_,rfl,rfl,_,rfl,?_⟩
   ·rw [← hv]; exact .inl ⟨kvs,.inr z,.inr ⟨ob,eF⟩,rfl,rfl⟩
   ·by_cases hk:k=kd
    ·subst hk
     refine ifT (by simp) ⟨fun v H3=>v=.str z∧H3=H',⟨_,rfl,rfl,rfl⟩,?_⟩
     rintro v H3 ⟨rfl,rfl⟩
     refine⟨_,?_,rfl,rfl,hlt,by rw [Yw,YZ]; omega,⟨_,rfl⟩,fun y hy'=>?_⟩
     ·omega
     ·rcases YN.mp hy' with h | h
      ·exact hall y h
      ·rw [Yp.mp h]; exact⟨z,rfl,hz⟩
    ·refine ifF (by simp [hk]) ⟨_,?_,rfl,rfl,hlt,by omega,⟨_,rfl⟩,hall⟩
     omega
  ·obtain rfl:i=kvs.length:=by omega
   refine .inl ⟨⟨kvs,eF,rfl⟩,fun D hD=>?_⟩
   have nD:D≠d:=Ne.symm (ae eF hD)
   have hD1:H1 D=none:=by rw [← hF,ac nD] at hD; exact hD
   refine⟨by rw [ac (Ne.symm nD)]; exact eF,?_⟩
   generalize hG:upd (upd H2 D (.lst ys)) d (.dK kvs)=HG
   have gD:HG D=some (.lst ys):=by rw [← hG,ac nD]; exact aa
   have sG:Same H1 HG:=fun b o e=>by
    by_cases hb:b=d
    ·subst hb
     rw [e1] at e
     rw [← hG,← e]; exact aa
    ·rw [← hG,ac hb,ac (ae e hD1),← hF,ac hb]; exact e
   refine⟨_,rfl,Yy _,fun l hl'=>⟨D,l,ys,rfl,rfl,SqL.of (by rw [ac (ae gD hl')]; exact gD),SqL.of aa,_,rfl,?_⟩⟩
   have s2:Same H (upd HG l (.lst [])):=(s1.trans sG).trans (ad hl' _)
   have wt:av p H (upd HG l (.lst [])):=⟨hp.keep s2,s2.x⟩
   cases ys with
   | nil=>exact ifT rfl (q _ _ (.inl rfl) wt)
   | cons y0 yr=>
    refine ifF (by simp) ?_
    have gD2:upd HG l (.lst []) D=some (.lst (y0::yr)):=by rw [ac (ae gD hl')]; exact gD
    have ply:(y0::yr).length≤3:=by omega
    refine⟨_,rfl,_,rfl,_,rfl,D,_,rfl,.inl (SqL.of gD2),?_⟩
    refine⟨p,_,rfl,wt.pot,by simp <;> omega,by simp at ply ⊢ <;> omega,fun r H3 r0 r1 p3 s3=>?_⟩
    have nDp:D≠p:=fun z=>by
     have:=s1.trans sG
     obtain⟨o,e⟩:=hp.some
     have e':=s1 _ _ e
     rw [← z,hD1] at e'; cases e'
    have hr1:r.toNat<(y0::yr).length:=by omega
    refine⟨D,_,r,(y0::yr)[r.toNat],rfl,rfl,SqL.of (s3 _ _ nDp gD2),aK r0 (by simp [hr1]),?_⟩
    obtain⟨x,ex,hx⟩:=hall _ (Xd hr1)
    exact q _ _ (.inr ⟨x,ex,hx⟩) (wt.mk1 p3 s3)
end
mutual
def sz:Tr→Nat
 | .leaf x=>x.length
 | .node ts=>szA ts+3
def szA:List Tr→Nat
 | []=>0
 | t::ts=>sz t+1+szA ts
end
mutual
def low:Tr→Prop
 | .leaf x=>∀ c∈x.cps.toList,c<16 ^ 8
 | .node ts=>kL ts
def kL:List Tr→Prop
 | []=>True
 | t::ts=>low t∧kL ts
end
structure Fit(D W:Nat)(t:Tr):Prop where
 dp:dep t≤D
 wt:sz t≤W
 lw:low t
structure b7(D W:Nat)(t:List Tr):Prop where
 dp:cQ t≤D
 wt:szA t≤W
 lw:kL t
theorem Fit.mono{D D' W W':Nat}{t:Tr}(h:Fit D W t)(h1:D≤D')(h2:W≤W'):Fit D' W' t:=⟨Yn h.dp h1,Yn h.wt h2,h.lw⟩
theorem b7.mono{D D' W W':Nat}{t:List Tr}(h:b7 D W t)(h1:D≤D')(h2:W≤W'):b7 D' W' t:=⟨Yn h.dp h1,Yn h.wt h2,h.lw⟩
theorem b7.nil{D:Nat}:b7 D 0 []:=⟨Yy _,Yg _,trivial⟩
theorem b7.cons{D W W':Nat}{t:Tr}{ts:List Tr}(h:Fit D W t)(r:b7 D W' ts):b7 D (W+1+W') (t::ts):=⟨Nat.max_le.mpr ⟨h.dp,r.dp⟩,by rw [szA]; have:=h.wt; have:=r.wt; omega,h.lw,r.lw⟩
theorem b7.all{D W n:Nat}:∀ {ts:List Tr},(∀ t∈ts,Fit D W t)→ts.length≤n→b7 D (n*(W+1)) ts
 | [],_,_=>b7.nil.mono (Yg _) (Yy _)
 | t::ts,h,hn=>by
  rw [Ys] at hn
  obtain⟨m,rfl⟩:∃ m,n=m+1:=⟨n-1,by omega⟩
  refine(b7.cons (h t Yl) (b7.all (n:=m) (fun x hx=>h x (Yj _ hx)) (by omega))).mono (Yg _) ?_
  rw [Nat.add_mul,Nat.one_mul]
  omega
theorem Fit.node{D W:Nat}{ts:List Tr}(h:b7 D W ts):Fit (D+1) (W+3) (.node ts):=⟨by rw [dep]; have:=h.dp; omega,by rw [sz]; have:=h.wt; omega,h.lw⟩
theorem Fit.nm{z:Str}(h:b6 z):Fit 0 12 (.leaf z):=⟨Yg _,by rw [sz,eE]; exact h.2.1,fun c hc=>by have:=h.2.2 c hc; omega⟩
theorem Fit.wd:∀ z∈[("=":Str),"not","and","or","all","some"],Fit 0 4 (.leaf z):=by
 have : ∀ z∈[("=":Str),"not","and","or","all","some"],z.length≤4∧∀ c∈z.cps.toList,c<16 ^ 8:=by decide +kernel
 exact fun z hz=>⟨Yg _,(this z hz).1,(this z hz).2⟩
theorem ic:∀ l:List Str,(Str.join " " l).length≤(l.map fun x=>x.length+1).sum
 | []=>Yg _
 | [a]=>by
  show a.length≤a.length+1+0
  omega
 | a::b::r=>by
  have ih:=ic (b::r)
  have e:Str.join " " (a::b::r)=a++" "++Str.join " " (b::r):=rfl
  rw [e,aJ,aJ,YA,YW]
  have : (" ":Str).length=1:=rfl
  omega
mutual
theorem xH:∀ t:Tr,(wr t).length≤sz t
 | .leaf x=>by rw [wr,sz]; exact Yg _
 | .node ts=>by
  rw [ik,sz]
  have:=ic (ts.map wr)
  have:=rM ts
  omega
theorem rM:∀ ts:List Tr,((ts.map wr).map fun x=>x.length+1).sum≤szA ts
 | []=>Yg _
 | t::ts=>by
  rw [YA,YA,YW,szA]
  have:=xH t
  have:=rM ts
  omega
end
mutual
theorem zby:∀ {t:Tr} {d:PyData},Lk t d→low t→d.leavesShort 8=true
 | _,_,.leaf x,l=>by
  simp only [PyData.leavesShort,Xy,decide_eq_true_eq]
  exact l
 | _,_,.lst r,l=>by simp only [PyData.leavesShort]; exact kM r l
 | _,_,.tup r,l=>by simp only [PyData.leavesShort]; exact kM r l
theorem kM:∀ {t:List Tr} {d:List PyData},LkA t d→kL t→PyData.leavesShortAll 8 d=true
 | _,_,.nil,_=>by simp only [PyData.leavesShortAll]
 | _,_,.cons h r,l=>by simp only [PyData.leavesShortAll,zby h l.1,kM r l.2,Bool.and_self]
end
abbrev gq(H:Hp)(p b:Addr)(ks:List Str)(ts:List ar)(fs:List am):Prop:=RdV (fun a=>a≠p) H (.ref b) (pV ks ts fs)
theorem RdV.went{p:Addr}{H H':Hp}{v:V}{d:PyData}(h:RdV (fun a=>a≠p) H v d)(s:ax p H H'):RdV (fun a=>a≠p) H' v d:=h.mono (fun _ z=>z) fun a o z e=>s a o z e
theorem gq.open{H:Hp}{p b:Addr}{ks:List Str}{ts:List ar}{fs:List am}(h:gq H p b ks ts fs):∃ k t f tv fv,H b=some (.tup [.ref k,.ref t,.ref f])∧k≠p∧H k=some (.lst (ks.map V.str))∧t≠p∧H t=some (.lst tv)∧RdA (fun a=>a≠p) H tv (ts.map lr)∧f≠p∧H f=some (.lst fv)∧RdA (fun a=>a≠p) H fv (fs.map kT):=by
 obtain⟨_,xs,e,_,h1,h2⟩:=RdV.tuple_inv h
 cases e
 obtain⟨x,y,z,rfl,hx,hy,hz⟩:=h2.three
 obtain⟨k,kx,rfl,nk,h3,h4⟩:=hx.list_inv
 obtain rfl:=h4.strs_inv
 obtain⟨t,tx,rfl,nt,h5,h6⟩:=hy.list_inv
 obtain⟨f,fx,rfl,nf,h7,h8⟩:=hz.list_inv
 exact⟨k,t,f,tx,fx,h1,nk,h3,nt,h5,h6,nf,h7,h8⟩
theorem tj{H:Hp}{p a:Addr}{o:HO}(hp:bJ H p)(e:H a=some o)(n:∀ x y z:Int,o≠.lst [.int x,.int y,.int z]):a≠p:=by
 rintro rfl
 obtain⟨x,y,z,e',_⟩:=hp
 rw [e] at e'
 exact n x y z (Option.some.inj e')
theorem cE{p:Addr}{H H':Hp}(h:bJ H p)(s:ax p H H'):gp H H':=fun a xs e=>s a _ (tj h e (fun _ _ _ z=>nomatch z)) e
theorem ScL.went{H H':Hp}{p a:Addr}{ps:List (Str×Str)}(h:ScL H a ps)(hp:bJ H p)(s:ax p H H'):ScL H' a ps:=by
 obtain⟨bs,e,r⟩:=h.ex
 refine⟨bs,s _ _ (tj hp e fun x y z q=>?_) e,Paired.mapP r fun b q z=>cE hp s _ _ z⟩
 cases bs with
 | nil=>injection q with q; cases q
 | cons b r=>injection q with q; injection q with q; cases q
theorem qL{x k:Str}{ps:List (Str×Str)}(h:bQ ps x=some k):∃ q∈ps,q=(x,k):=by
 have : ∀ (ps:List (Str×Str)) (S:Str→Option Str),(ps.foldl (fun S q=>dY S q.1 q.2) S) x=some k→S x=some k∨∃ q∈ps,q=(x,k):=by
  intro ps
  induction ps with
  | nil=>exact fun S h=>.inl h
  | cons q r ih=>
   intro S h
   rcases ih _ h with h | ⟨q',hq,e⟩
   ·have h:(if x=q.1 then some q.2 else S x)=some k:=h
    by_cases hx:x=q.1
    ·rw [if_pos hx] at h
     exact .inr ⟨q,Yl,by rw [hx,← Option.some.inj h]⟩
    ·rw [if_neg hx] at h; exact .inl h
   ·exact .inr ⟨q',Yj _ hq,e⟩
 rcases this ps _ h with z | z
 ·cases z
 ·exact z
theorem nZ(ps:List (Str×Str))(x k:Str):bQ (ps++[(x,k)])=dY (bQ ps) x k:=by
 unfold bQ
 rw [List.foldl_append]
 rfl
def bT:Nat→Nat
 | 0=>12
 | n+1=>18+2*bT n
theorem xX:∀ n,12≤bT n
 | 0=>Yg _
 | n+1=>by rw [bT]; have:=xX n; omega
theorem jU{p:Addr}{H:Hp}{v:V}{g:am}(h:RdV (fun a=>a≠p) H v (kT g)):∃ q pl,v=.ref q∧H q=some (.tup [.str g.nm,.ref pl,.str g.kd])∧pl≠p∧H pl=some (.lst (g.ps.map V.str)):=by
 obtain⟨q1,qx,rfl,_,h1,h2⟩:=RdV.tuple_inv h
 obtain⟨u,v,x,rfl,hu,hv,hx⟩:=h2.three
 obtain rfl:=hu.str_inv
 obtain rfl:=hx.str_inv
 obtain⟨q2,qy,rfl,n2,h3,h4⟩:=hv.list_inv
 obtain rfl:=h4.strs_inv
 exact⟨q1,q2,rfl,h1,n2,h3⟩
theorem qi{p:Addr}{H:Hp}{v:V}{g:ar}(h:RdV (fun a=>a≠p) H v (lr g)):∃ q pl,v=.ref q∧H q=some (.tup [.str g.nm,.ref pl])∧pl≠p∧H pl=some (.lst (g.ps.map V.str)):=by
 obtain⟨q1,qx,rfl,_,h1,h2⟩:=RdV.tuple_inv h
 obtain⟨u,v,rfl,hu,hv⟩:=h2.two
 obtain rfl:=hu.str_inv
 obtain⟨q2,qy,rfl,n2,h3,h4⟩:=hv.list_inv
 obtain rfl:=h4.strs_inv
 exact⟨q1,q2,rfl,h1,n2,h3⟩
section
abbrev cV:Stmt:=top 51
theorem zbz:aj ["_law_pot_here","_law_book_here","_law_scope","_law_kind","_law_deep","_law_some","_law_variable_here","_law_function","_law_terms_here"] lA3 (ag cV):=by walk_at "F"
def dh(fs:List am)(ps:List (Str×Str))(kd:Str)(n:Nat)(H:Hp)(v:V):Prop:=v=.non∨∃ t,Tup H v t∧oM fs (bQ ps) t kd∧Fit n (bT n) t
theorem dh.keep{fs:List am}{ps:List (Str×Str)}{kd:Str}{n:Nat}{H H':Hp}{v:V}(h:dh fs ps kd n H v)(s:gp H H'):dh fs ps kd n H' v:=by
 rcases h with h | ⟨t,h1,h2⟩
 ·exact .inl h
 ·exact .inr ⟨t,dz s h1,h2⟩
theorem dh.thg{K:XC}{fs:List am}{ps:List (Str×Str)}{kd:Str}{n:Nat}{H:Hp}{v:V}(h:dh fs ps kd n H v):Thg K H v:=by
 rcases h with h | ⟨t,h1,h2⟩
 ·exact .inl h
 ·cases h1 with
  | leaf x=>exact .inr (.inl ⟨x,rfl⟩)
  | node e r=>exact .inr (.inr ⟨_,_,rfl,SqT.of e⟩)
theorem dk{α β:Type}{F:α→β→Prop}{x:α}{y:β}(h:F x y):∀ {a:List α} {b:List β},Paired F a b→Paired F (a++[x]) (b++[y])
 | _,_,.nil=>.cons h .nil
 | _,_,.cons f r=>.cons f (dk h r)
theorem fo{α β:Type}{F:α→β→Prop}{x:α}:∀ {a:List α} {b:List β},Paired F a b→x∈a→∃ y∈b,F x y
 | _,_,.nil,h=>by cases h
 | _,_,.cons f r,h=>by
  rcases Yr.mp h with rfl | h
  ·exact⟨_,Yl,f⟩
  ·obtain⟨y,hy,q⟩:=fo r h
   exact⟨y,Yj _ hy,q⟩
theorem oy{fs:List am}{ps:List (Str×Str)}{n:Nat}{H:Hp}:∀ {ys:List V} {ks:List Str},Paired (fun y k=>dh fs ps k n H y) ys ks→(ys.any fun v=>decide (v=.non))=false→∃ l,df H ys l∧dI fs (bQ ps) l ks∧∀ t∈l,Fit n (bT n) t
 | _,_,.nil,_=>⟨[],.nil,.nil,fun _ z=>nomatch z⟩
 | _,_,.cons f r,h=>by
  rw [Y9,Bool.or_eq_false_iff] at h
  obtain⟨l,h1,h2,h3⟩:=oy r h.2
  rcases f with rfl | ⟨t,a1,a2,a3⟩
  ·exact absurd h.1 (by simp)
  ·refine⟨t::l,.cons a1 h1,.cons a2 h2,fun u hu=>?_⟩
   rcases Yr.mp hu with rfl | hu
   ·exact a3
   ·exact h3 u hu
inductive spTmD(n:Nat)(vs:List V)(H:Hp)(Q:VK)(e3_:XK):Prop | mk (p b a:Addr) (ps:List (Str×Str)) (kd:Str) (ks:List Str) (ts:List ar) (fs:List am) (_:vs=[.ref p,.ref b,.ref a,.str kd,.int n]) (_:bJ H p) (_:gq H p b ks ts fs) (_:aV ks ts fs) (_:ScL H a ps) (_:ps.length≤3) (_:(∀ q∈ps,b6 q.1)) (_:∀ v H',dh fs ps kd n H' v→av p H H'→Q v H')
def nz:Nat→Sp
 | 0=>fun _ _ _ _=>False
 | n+1=>spTmD n
theorem qt{m:Nat}{vs:List V}{H:Hp}{Q:VK}{E:XK}(h:spTmD m vs H Q E):nz (m+1) vs H Q E:=h
theorem jL(F:ah K mg "_law_term" cV lA3)(Z:Bl mg)(D_law_draw:Def P w K mg base "_law_draw" 1 lA6 spDraw)(D_law_variable:Def P w K mg base "_law_variable" 2 lB2 spVar)(n:Nat)
  (D_law_term:Def P w K mg base "_law_term" (n+2) lA3 (nz n)):Def P w K mg base "_law_term" (n+3) lA3 (spTmD n):=by
 have SC:=zbz
 refine F.mk' (k:=n+2) zbz (fun vs H Q E h=>?_) (fun f cdv A outer s H vs Q E hr h=>?_)
 ·obtain⟨p,b,a,ps,kd,ks,ts,fs,rfl,_⟩:=h
  rfl
 ·obtain⟨p,b,a,ps,kd,ks,ts,fs,rfl,hp,hb,ok,hs,hl,hn,q⟩:=h
  refine'⟨_,?dv,?_⟩
  case dv=>(have:=af 21 236 7 30; have:=af 11 238 11 55; have:=af 16 232 7 22; have:=af 10 230 52 69; have:=af 10 235 121 137; have:=af 10 238 12 28; have:=af 10 230 73 89; have:=bG 230 4 103 1 ["_law_function","_law_pot_here","_law_book_here","_law_scope","_law_kind","_law_deep","_law_some","_law_variable_here",".h_law_function","_law_terms_here"]; have:=bG 235 4 138 1 ["_law_place","_law_pot_here","_law_book_here","_law_scope","_law_kind","_law_deep","_law_some","_law_variable_here","_law_function","_law_terms_here"]; have:=af 22 236 7 30; have:=af 20 232 7 22; walk_at "S2")
  obtain⟨x0,x1,x2,ep,ha,hb0,hb1⟩:=id hp
  refine⟨_,rfl,p,_,2,.int x2,rfl,rfl,by decide,SqL.of ep,rfl,_,_,rfl,rfl,p,_,2,2,rfl,rfl,ep,rfl,?_⟩
  generalize hHA:upd H p (.lst (List.set [V.int x0,V.int x1,V.int x2] 2 (V.int (x2-1))))=HA
  have wA:av p H HA:=⟨⟨x0,x1,x2-1,by rw [← hHA]; exact aa,ha,hb0,hb1⟩,by rw [← hHA]; exact ax.upd _ _ _⟩
  have bA:=RdV.went hb wA.same
  obtain⟨kA,tA,fA,tv,fv,eb,nk,ek,nt,et,rt,nf,ef,rf⟩:=gq.open bA
  have fl:fv.length=fs.length:=by rw [RdA.length rf,Yh]
  have ok8:=ok.sl
  refine⟨_,rfl,b,_,2,.ref fA,rfl,rfl,SqT.of eb,rfl,fA,rfl,⟨_,SqL.of ef⟩,fun cl C ex s0 Hc=>?_⟩
  refine⟨fun i m ys σ' H2=>H2=HA∧m=fv.length-i∧i≤fv.length∧ys.length≤i∧(∃ v0,σ'=[v0,some (.ref p),some (.ref b),some (.ref a),some (.str kd),some (.int n),none,none,none,none])∧∀ y∈ys,∃ g∈fs,RdV (fun a=>a≠p) HA y (kT g)∧g.kd=kd,⟨_,rfl,rfl,Yy _,Yg _,⟨_,rfl⟩,fun _ z=>nomatch z⟩,?_⟩
  rintro i m ys σ' H2 ⟨rfl,rfl,hi,hy,⟨v0,rfl⟩,hall⟩
  by_cases hlt:i<fv.length
  ·refine .inr ⟨⟨fv,fv[i],SqL.of ef,by simp [hlt]⟩,YI (show ys.length≤8 by omega) (by decide),fun x H' hyl=>?_⟩
   obtain⟨rfl,hx⟩:=hyl
   have hx:=hx fv (SqL.of ef)
   obtain⟨d,ed,rd⟩:=RdA.getV rf hx
   rw [YB] at ed
   obtain⟨g,eg,rfl⟩:=Yx.mp ed
   obtain⟨q1,q2,rfl,e1,n2,e2⟩:=jU rd
   refine⟨_,rfl,q1,_,2,.str g.kd,rfl,rfl,SqT.of e1,rfl,_,rfl,rfl,_,rfl,?_⟩
   by_cases hk:g.kd=kd
   ·refine ifT (by simp [hk]) ⟨fun v H3=>v=.ref q1∧H3=H',⟨_,rfl,rfl,rfl⟩,?_⟩
    rintro v H3 ⟨rfl,rfl⟩
    refine⟨_,?_,rfl,rfl,hlt,by rw [Yw,YZ]; omega,⟨_,rfl⟩,fun y hy'=>?_⟩
    ·omega
    ·rcases YN.mp hy' with h | h
     ·exact hall y h
     ·rw [Yp.mp h]; exact⟨g,YD eg,rd,hk⟩
   ·refine ifF (by simp [hk]) ⟨_,?_,rfl,rfl,hlt,by omega,⟨_,rfl⟩,hall⟩
    omega
  ·obtain rfl:i=fv.length:=by omega
   refine .inl ⟨⟨fv,SqL.of ef,Yg _⟩,fun D hD=>?_⟩
   have wB:av p H2 (upd H2 D (.lst ys)):=(av.refl wA.pot).new hD _
   have nDp:D≠p:=Ne.symm (wA.ne hD)
   refine⟨_,rfl,_,rfl,_,rfl,p,a,ps,kd,rfl,wB.pot,(hs.went hp wA.same).went wA.pot wB.same,hl,fun vv H3 hv w3=>?_⟩
   have wC:=wB.trans w3
   have gD:H3 D=some (.lst ys):=w3.at nDp aa
   have hvD:∀ H',dh fs ps kd n H' vv:=fun H'=>by
    rcases hv with rfl | ⟨x,rfl,hx⟩
    ·exact .inl rfl
    ·refine .inr ⟨.leaf x,.leaf x,.var hx,(Fit.nm ?_).mono (Yy _) (xX n)⟩
     obtain⟨qq,hq,rfl⟩:=qL hx
     exact hn _ hq
   dsimp only [cG]
   refine ku (fun σ' H'=>σ'=[some (.ref p),some (.ref b),some (.ref a),some (.str kd),some (.int n),some (.ref D),some vv,none,none]∧av p H2 H'∧H' D=some (.lst ys)∧ys≠[]∧n≠0) ?_ (fun go=>?_)
   ·rintro σ' H5 ⟨rfl,w5,g5,yn,n0⟩
    obtain⟨m,rfl⟩:∃ m,n=m+1:=⟨n-1,by omega⟩
    have yl:0<ys.length:=List.length_pos_iff.mpr yn
    refine⟨_,rfl,_,rfl,_,rfl,D,_,rfl,.inl (SqL.of g5),?_⟩
    refine⟨p,_,rfl,w5.pot,by omega,by omega,fun r H6 r0 r1 p6 s6=>?_⟩
    have hr1:r.toNat<ys.length:=by omega
    refine⟨D,_,r,ys[r.toNat],rfl,rfl,SqL.of (s6 _ _ nDp g5),aK r0 (by simp [hr1]),?_⟩
    obtain⟨g,hg,rg,gk⟩:=hall _ (Xd hr1)
    have w6:av p H2 H6:=w5.mk1 p6 s6
    obtain⟨q1,q2,eq,e1,n2,e2⟩:=jU (RdV.went rg w6.same)
    rw [eq]
    obtain⟨gn,g2,gks,_⟩:=ok.fn g hg
    refine⟨_,rfl,q1,_,1,.ref q2,rfl,rfl,SqT.of e1,rfl,q2,rfl,⟨_,SqL.of e2⟩,fun cl C ex s0 Hc=>?_⟩
    have bk:∀ {H7},av p H6 H7→gq H7 p b ks ts fs:=fun w7=>RdV.went bA (w6.trans w7).same
    have sc:∀ {H7},av p H6 H7→ScL H7 a ps:=fun w7=>(hs.went hp wA.same).went wA.pot (w6.trans w7).same
    refine bH (g.ps.map V.str).length (fun i ys7 H7=>av p H6 H7∧Paired (fun y k=>dh fs ps k m H7 y) ys7 (g.ps.take i)) (fun i y=>(g.ps.map V.str)[i]? = some y) ⟨av.refl p6,.nil⟩ (by rw [Yh]; exact Yn g2 (by decide))
     (fun i ys7 H7 hi _ h=>gb (SqL.of (h.1.at n2 e2)) hi) (fun ys7 H7 _ h=>dA (SqL.of (h.1.at n2 e2))) ?_ ?_
    ·rintro i y ys7 H7 hi hy7 yl7 ⟨w7,dr7⟩
     rw [YB] at hy7
     obtain⟨k,hk,rfl⟩:=Yx.mp hy7
     refine⟨_,rfl,_,rfl,_,rfl,_,rfl,_,rfl,_,_,rfl,rfl,?_⟩
     refine qt (E:=E0) ⟨p,b,a,ps,k,ks,ts,fs,?_,w7.pot,bk w7,ok,sc w7,hl,hn,fun v H8 hv8 w8=>⟨w7.trans w8,?_⟩⟩
     ·have : ((m+1:Nat):Int) - 1=(m:Int):=by omega
      show [V.ref p,V.ref b,V.ref a,V.str k,V.int (((m+1:Nat):Int) - 1)]=_
      rw [this]
     ·rw [YL,hk]
      have h7:Paired (fun y k=>dh fs ps k m H8 y) ys7 (g.ps.take i):=Paired.mapP dr7 fun y k z=>dh.keep z (cE w7.pot w8.same)
      exact dk (F:=fun y k=>dh fs ps k m H8 y) hv8 h7
    ·rintro ys7 H7 yl7 ⟨w7,dr7⟩ D2 hD2
     rw [Yh,YQ] at dr7
     have w8:av p H6 (upd H7 D2 (.lst ys7)):=w7.new hD2 _
     have dr8:Paired (fun y k=>dh fs ps k m (upd H7 D2 (.lst ys7)) y) ys7 g.ps:=Paired.mapP dr7 fun y k z=>dh.keep z (Same.tups (ad hD2 (.lst ys7)))
     refine⟨_,rfl,D2,ys7,rfl,rfl,SqL.of aa,fun v hv7=>(fo dr8 hv7).elim fun k hk=>dh.thg hk.2,_,rfl,?_⟩
     by_cases hany:(ys7.any fun v=>decide (v=.non))=true
     ·exact ifT hany ⟨_,rfl,q _ _ (hvD _) (wA.trans (w6.trans w8))⟩
     ·refine ifF hany ?_
      obtain⟨l,l1,l2,l3⟩:=oy dr8 (Bool.eq_false_iff.mpr hany)
      have w8':=w6.trans w8
      have e8:upd H7 D2 (.lst ys7) q1=some (.tup [.str g.nm,.ref q2,.str g.kd]):=(Same.tups (ad hD2 (.lst ys7))) _ _ (cE p6 w7.same _ _ e1)
      refine⟨_,rfl,q1,_,0,.str g.nm,rfl,rfl,SqT.of e8,rfl,(by show 1≤sizeLine; decide),fun t1 ht1=>?_⟩
      have u1:upd (upd H7 D2 (.lst ys7)) t1 (.tup [.str g.nm]) D2=some (.lst ys7):=by rw [ac (ae aa ht1)]; exact aa
      refine⟨_,rfl,D2,ys7,rfl,.inl ⟨SqL.of u1,fun t2 ht2=>?_⟩⟩
      have s1:=ad ht1 (.tup [.str g.nm])
      have s2:=ad ht2 (.tup ys7)
      have yl2:ys7.length≤2:=by rw [yl7,Yh]; exact g2
      refine kW (s2 _ _ aa) aa (Yn (show 1+ys7.length≤3 by omega) (by decide)) fun pp H9 e9 s9=>?_
      have s8:=(s1.trans s2).trans s9
      refine q _ _ (.inr ⟨.node (.leaf g.nm::l),.node e9 (.cons (.leaf _) (cp (Same.tups s8) l1)),by rw [← gk]; exact .app hg l2,?_⟩) ?_
      ·refine(Fit.node (b7.cons ((Fit.nm gn.1).mono (Yy m) (Yg _)) (b7.all (n:=2) l3 (by rw [dI.length l2]; exact g2)))).mono (Yg _) ?_
       rw [bT]; omega
      ·exact(wA.trans w8').mk1 (w8'.pot.keep s8) s8.x
   ·have tell:∀ H',av p H2 H'→Q vv H':=fun H' w'=>q _ _ (hvD _) (wA.trans w')
    refine⟨_,rfl,Yy _,fun l hl'=>⟨D,l,ys,rfl,rfl,SqL.of (by rw [ac (ae gD hl')]; exact gD),SqL.of aa,_,rfl,?_⟩⟩
    have wD:=wC.new hl' (.lst [])
    have gD4:upd H3 l (.lst []) D=some (.lst ys):=by rw [ac (ae gD hl')]; exact gD
    by_cases yn:ys=[]
    ·exact ifT (by rw [yn]; rfl) (ifT rfl ⟨_,rfl,tell _ wD⟩)
    refine ifF (by simpa using yn) ⟨_,rfl,rfl,_,rfl,?_⟩
    by_cases n0:n=0
    ·exact ifT (by simp [n0]) (ifT rfl ⟨_,rfl,tell _ wD⟩)
    refine ifF (by simp; omega) ?_
    obtain⟨c0,c1,c2,ec,hc0,hc1,hc2⟩:=id wD.pot
    refine⟨_,rfl,p,_,2,.int c2,rfl,rfl,SqL.of ec,rfl,_,_,rfl,rfl,_,rfl,?_⟩
    by_cases c1':c2<1
    ·exact ifT (by simpa using c1') (ifT rfl ⟨_,rfl,tell _ wD⟩)
    refine ifF (by simpa using c1') ⟨_,rfl,rfl,_,rfl,?_⟩
    by_cases hvn:vv=.non
    ·exact ifF (by simp [hvn]) (ifF (by simp) (go _ _ ⟨rfl,wD,gD4,yn,n0⟩))
    refine ifT (by simp [hvn]) ⟨_,rfl,p,3,rfl,wD.pot,by decide,by decide,fun r H5 r0 r1 p5 s5=>⟨_,_,rfl,rfl,_,rfl,?_⟩⟩
    by_cases r2:r > 0
    ·exact ifT (by simpa using r2) ⟨_,rfl,tell _ (wD.mk1 p5 s5)⟩
    ·exact ifF (by simpa using r2) (go _ _ ⟨rfl,wD.mk1 p5 s5,s5 _ _ nDp gD4,yn,n0⟩)
theorem wJ(F:ah K mg "_law_term" cV lA3):Def P w K mg base "_law_term" 2 lA3 (nz 0):=
 F.mk' (k:=1) zbz (fun vs H Q E h=>False.elim h) fun f cdv A outer s H vs Q E hr h=>False.elim h
theorem tY(F:ah K mg "_law_term" cV lA3)(Z:Bl mg)(D_law_draw:Def P w K mg base "_law_draw" 1 lA6 spDraw)(D_law_variable:Def P w K mg base "_law_variable" 2 lB2 spVar):∀ n,Def P w K mg base "_law_term" (n+3) lA3 (spTmD n)
 | 0=>jL F Z D_law_draw D_law_variable 0 (wJ F)
 | n+1=>jL F Z D_law_draw D_law_variable (n+1) (tY F Z D_law_draw D_law_variable n)
end
section
abbrev fj:Stmt:=top 52
theorem zb0:aj ["_law_pot_here","_law_book_here","_law_scope","_law_deep","_law_at","_law_word","_law_places","_law_terms_here"] lA1 (ag fj):=by walk_at "F"
inductive spAtom(vs:List V)(H:Hp)(Q:VK)(e3_:XK):Prop | mk (p b a:Addr) (ps:List (Str×Str)) (ks:List Str) (ts:List ar) (fs:List am) (_:vs=[.ref p,.ref b,.ref a,.int 2]) (_:bJ H p) (_:gq H p b ks ts fs) (_:aV ks ts fs) (_:ScL H a ps) (_:ps.length≤3) (_:(∀ q∈ps,b6 q.1)) (_:∀ v H' t,Tup H' v t→fF ks ts fs (bQ ps) t→Fit 3 222 t→av p H H'→Q v H')
theorem wV(F:ah K mg "_law_atom" fj lA1)(Z:Bl mg)(D_law_draw:Def P w K mg base "_law_draw" 1 lA6 spDraw)
  (D_law_term:Def P w K mg base "_law_term" (2+3) lA3 (spTmD 2)):Def P w K mg base "_law_atom" 6 lA1 spAtom:=by
 have SC:=zb0
 refine F.mk' (k:=5) zb0 (fun vs H Q E h=>?_) (fun f cdv A outer s H vs Q E hr h=>?_)
 ·obtain⟨p,b,a,ps,ks,ts,fs,rfl,_⟩:=h
  rfl
 ·obtain⟨p,b,a,ps,ks,ts,fs,rfl,hp,hb,ok,hs,hl,hn,q⟩:=h
  refine'⟨_,?dv,?_⟩
  case dv=>(have:=af 21 246 7 30; have:=af 11 248 11 48; have:=af 10 241 21 38; have:=af 10 242 33 50; have:=af 23 244 39 112; have:=af 10 240 43 60; have:=af 10 244 40 57; have:=af 10 244 87 104; have:=bG 245 4 129 1 ["_law_place","_law_pot_here","_law_book_here","_law_scope","_law_deep","_law_at","_law_word","_law_places","_law_terms_here"]; have:=af 22 246 7 30; walk_at "S2")
  obtain⟨kA,tA,fA,tv,fv,eb,nk,ek,nt,et,rt,nf,ef,rf⟩:=gq.open hb
  have tl:tv.length=ts.length:=by rw [RdA.length rt,Yh]
  have ok8:=ok.sl
  have ok4:=ok.k4
  have ok1:=ok.k1
  refine⟨_,rfl,_,rfl,b,_,1,.ref tA,rfl,rfl,SqT.of eb,rfl,tA,tv,rfl,.inl (SqL.of et),_,_,rfl,rfl,?_⟩
  refine⟨p,_,rfl,hp,by omega,by omega,fun r H1 r0 r1 p1 s1=>?_⟩
  have w1:av p H H1:=⟨p1,s1⟩
  dsimp only [cG]
  refine ku (fun σ' H'=>∃ (wd:Str) (pl:Addr) (ps':List Str),σ'=[some (.ref p),some (.ref b),some (.ref a),some (.int 2),some (.int r),some (.str wd),some (.ref pl),none]∧av p H H'∧pl≠p∧H' pl=some (.lst (ps'.map V.str))∧ps'.length≤2∧(∀ l,dI fs (bQ ps) l ps'→fF ks ts fs (bQ ps) (.node (.leaf wd::l)))∧Fit 0 12 (.leaf wd)) ?_ (fun go=>?_)
  ·rintro σ' H5 ⟨wd,pl,ps',rfl,w5,n5,e5,l5,mk,fw⟩
   refine⟨_,rfl,pl,rfl,⟨_,SqL.of e5⟩,fun cl C ex s0 Hc=>?_⟩
   refine bH (ps'.map V.str).length (fun i ys7 H7=>av p H5 H7∧Paired (fun y k=>dh fs ps k 2 H7 y) ys7 (ps'.take i)) (fun i y=>(ps'.map V.str)[i]? = some y) ⟨av.refl w5.pot,.nil⟩ (by rw [Yh]; exact Yn l5 (by decide))
    (fun i ys7 H7 hi _ h=>gb (SqL.of (h.1.at n5 e5)) hi) (fun ys7 H7 _ h=>dA (SqL.of (h.1.at n5 e5))) ?_ ?_
   ·rintro i y ys7 H7 hi hy7 yl7 ⟨w7,dr7⟩
    rw [YB] at hy7
    obtain⟨k,hk,rfl⟩:=Yx.mp hy7
    refine⟨_,rfl,_,rfl,_,rfl,_,rfl,_,rfl,?_⟩
    refine⟨p,b,a,ps,k,ks,ts,fs,rfl,w7.pot,RdV.went hb (w5.trans w7).same,ok,hs.went hp (w5.trans w7).same,hl,hn,fun v H8 hv8 w8=>⟨w7.trans w8,?_⟩⟩
    rw [YL,hk]
    have h7:Paired (fun y k=>dh fs ps k 2 H8 y) ys7 (ps'.take i):=Paired.mapP dr7 fun y k z=>dh.keep z (cE w7.pot w8.same)
    exact dk (F:=fun y k=>dh fs ps k 2 H8 y) hv8 h7
   ·rintro ys7 H7 yl7 ⟨w7,dr7⟩ D2 hD2
    rw [Yh,YQ] at dr7
    have w8:av p H5 (upd H7 D2 (.lst ys7)):=w7.new hD2 _
    have dr8:Paired (fun y k=>dh fs ps k 2 (upd H7 D2 (.lst ys7)) y) ys7 ps':=Paired.mapP dr7 fun y k z=>dh.keep z (Same.tups (ad hD2 (.lst ys7)))
    have w9:=w5.trans w8
    refine⟨_,rfl,D2,ys7,rfl,rfl,SqL.of aa,fun v hv7=>(fo dr8 hv7).elim fun k hk=>dh.thg hk.2,_,rfl,?_⟩
    by_cases hany:(ys7.any fun v=>decide (v=.non))=true
    ·refine ifT hany ⟨(by show 2≤sizeLine; decide),fun L hL=>⟨_,rfl,p,2,rfl,w9.pot.keep (ad hL _),by decide,by decide,fun r2 H9 r20 r21 p9 s9=>?_⟩⟩
     have wL:=w9.new hL (.lst [.str "and",.str "or"])
     have nL:L≠p:=Ne.symm (w9.ne hL)
     have wz:=wL.mk1 p9 s9
     have fin:∀ w:Str,w="and"∨w="or"→∀ t,H9 t=none→Q (.ref t) (upd H9 t (.tup [.str w])):=fun w hw t ht=>q _ _ (.node [.leaf w]) (.node aa (.cons (.leaf _) .nil)) (.conn hw (by decide) .nil)
      ((Fit.node (b7.cons (Fit.wd w (by rcases hw with rfl | rfl <;> simp)) b7.nil)).mono (by decide) (by decide)) (wz.new ht _)
     have hc:r2=0∨r2=1:=by omega
     rcases hc with rfl | rfl
     ·exact⟨L,_,0,.str "and",rfl,rfl,SqL.of (s9 _ _ nL aa),rfl,(by show 1≤sizeLine; decide),fin _ (.inl rfl)⟩
     ·exact⟨L,_,1,.str "or",rfl,rfl,SqL.of (s9 _ _ nL aa),rfl,(by show 1≤sizeLine; decide),fin _ (.inr rfl)⟩
    ·refine ifF hany ?_
     obtain⟨l,l1,l2,l3⟩:=oy dr8 (Bool.eq_false_iff.mpr hany)
     refine⟨_,rfl,(by show 1≤sizeLine; decide),fun t1 ht1=>?_⟩
     have u1:upd (upd H7 D2 (.lst ys7)) t1 (.tup [.str wd]) D2=some (.lst ys7):=by rw [ac (ae aa ht1)]; exact aa
     refine⟨_,rfl,D2,ys7,rfl,.inl ⟨SqL.of u1,fun t2 ht2=>?_⟩⟩
     have s1:=ad ht1 (.tup [.str wd])
     have s2:=ad ht2 (.tup ys7)
     have yl2:ys7.length≤2:=by rw [yl7,Yh]; exact l5
     refine kW (s2 _ _ aa) aa (Yn (show 1+ys7.length≤3 by omega) (by decide)) fun pp H9 e9 s9=>?_
     have s8:=(s1.trans s2).trans s9
     refine q _ _ (.node (.leaf wd::l)) (.node e9 (.cons (.leaf _) (cp (Same.tups s8) l1))) (mk l l2) ?_ (w9.mk1 (w9.pot.keep s8) s8.x)
     exact(Fit.node (b7.cons (fw.mono (Yy 2) (Yg _)) (b7.all (n:=2) l3 (by rw [dI.length l2]; exact l5)))).mono (by decide) (by decide)
  ·have b1:=RdV.went hb s1
   obtain⟨kB,tB,fB,tv',fv',eb1,nk1,ek1,nt1,et1,rt1,_⟩:=gq.open b1
   refine⟨_,rfl,_,rfl,b,_,1,.ref tB,rfl,rfl,SqT.of eb1,rfl,tB,tv',rfl,.inl (SqL.of et1),_,_,rfl,rfl,_,rfl,?_⟩
   by_cases hr:r<tv'.length
   ·have hr1:r.toNat<tv'.length:=by omega
    obtain⟨d,ed,rd⟩:=RdA.getV rt1 (i:=r.toNat) (x:=tv'[r.toNat]) (by simp [hr1])
    rw [YB] at ed
    obtain⟨g,eg,rfl⟩:=Yx.mp ed
    have hg:=YD eg
    obtain⟨q1,q2,eq,e1,n2,e2⟩:=qi rd
    refine ifT (by simpa using hr) ⟨_,rfl,b,_,1,.ref tB,rfl,rfl,SqT.of eb1,rfl,_,rfl,tB,tv',r,tv'[r.toNat],rfl,rfl,SqL.of et1,aK r0 (by simp [hr1]),?_⟩
    rw [eq]
    exact⟨q1,_,rfl,SqT.of e1,rfl,_,_,rfl,_,_,rfl,rfl,go _ _ ⟨g.nm,q2,g.ps,rfl,w1,n2,e2,(ok.tn g hg).2.1,fun l hl=>.tie hg hl,Fit.nm (ok.tn g hg).1.1⟩⟩
   ·refine ifF (by simpa using hr) ⟨_,rfl,b,_,0,.ref kB,rfl,rfl,SqT.of eb1,rfl,_,rfl,_,rfl,b,_,0,.ref kB,rfl,rfl,SqT.of eb1,rfl,kB,_,rfl,.inl (SqL.of ek1),?_⟩
    rw [Yh]
    refine⟨p,_,rfl,p1,by omega,by omega,fun r2 H2 r20 r21 p2 s2=>?_⟩
    have hr2:r2.toNat<ks.length:=by omega
    have hk:ks[r2.toNat]? = some ks[r2.toNat]:=by simp [hr2]
    refine⟨kB,_,r2,.str ks[r2.toNat],rfl,rfl,SqL.of (s2 _ _ nk1 ek1),aK r20 (by rw [YB,hk]; rfl),(by show 1≤sizeLine; decide),fun L hL=>?_⟩
    refine⟨L,2,_,rfl,rfl,aa,by decide,by decide,(by show 1*2≤sizeLine; decide),fun L2 hL2=>⟨_,_,rfl,?_⟩⟩
    have w2:=((w1.mk1 p2 s2).new hL (.lst [.str ks[r2.toNat]]))
    refine go _ _ ⟨"=",L2,[ks[r2.toNat],ks[r2.toNat]],rfl,w2.new hL2 _,Ne.symm (w2.ne hL2),aa,Yg 2,fun l hl=>?_,(Fit.wd _ (by simp)).mono (Yg _) (by decide)⟩
    cases hl with
    | cons a1 r1=>
     cases r1 with
     | cons a2 r2=>
      cases r2
      exact .eq a1 a2
end
def g9(c:Nat):Bool:=!(Builtin.Str.occurrences abc ⟨#[c]⟩ 0 abc.length 1).isEmpty
def nmB(z:Str):Bool:=decide (1≤z.cps.toList.length)&&decide (z.cps.toList.length≤12)&&z.cps.toList.all g9
theorem AX{z:Str}(h:b6 z):nmB z=true:=by
 obtain⟨h1,h2,h3⟩:=h
 unfold nmB
 rw [decide_eq_true h1,decide_eq_true h2]
 show z.cps.toList.all g9=true
 rw [Xy]
 intro c hc
 obtain⟨c0,c1⟩:=h3 c hc
 exact uS c0 c1
abbrev Sco:=Str→Option Str
def Sco.put(sc:Sco)(x k:Str):Sco:=fun y=>if y=x then some k else sc y
def eX(ts:List ar)(x:Str):Option (List Str):=(ts.find? fun t=>t.nm==x).map (·.ps)
def gc(fs:List am)(x:Str):Option (List Str×Str):=(fs.find? fun t=>t.nm==x).map fun t=>(t.ps,t.kd)
mutual
def aO(fs:List am)(sc:Sco):PyData→Option Str
 | .str x=>sc x
 | .list xs=>j5 fs sc xs
 | .tuple xs=>j5 fs sc xs
 | _=>none
def j5(fs:List am)(sc:Sco):List PyData→Option Str
 | .str f::xs=>match gc fs f with
  | some (ps,k)=>if br fs sc xs ps then some k else none
  | none=>none
 | _=>none
def br(fs:List am)(sc:Sco):List PyData→List Str→Bool
 | [],[]=>true
 | x::xs,p::ps=>aO fs sc x==some p&&br fs sc xs ps
 | _,_=>false
end
def eqD(fs:List am)(sc:Sco):List PyData→Bool
 | [x,y]=>(aO fs sc x).isSome&&aO fs sc x==aO fs sc y
 | _=>false
mutual
def bZ(ks:List Str)(ts:List ar)(fs:List am):PyData→Sco→Bool
 | .list xs,sc=>di ks ts fs xs sc
 | .tuple xs,sc=>di ks ts fs xs sc
 | _,_=>false
def di(ks:List Str)(ts:List ar)(fs:List am):List PyData→Sco→Bool
 | .str w::xs,sc=>
  if w="=" then eqD fs sc xs
  else if w="not" then xs.length==1&&dW ks ts fs xs sc
  else if w="and"∨w="or" then dW ks ts fs xs sc
  else if w="all"∨w="some" then ck ks ts fs xs sc
  else match eX ts w with
   | some ps=>br fs sc xs ps
   | none=>false
 | _,_=>false
def dW(ks:List Str)(ts:List ar)(fs:List am):List PyData→Sco→Bool
 | [],_=>true
 | x::xs,sc=>bZ ks ts fs x sc&&dW ks ts fs xs sc
def ck(ks:List Str)(ts:List ar)(fs:List am):List PyData→Sco→Bool
 | .str v::.str k::x::r,sc=>r.isEmpty&&nmB v&&ks.contains k&&bZ ks ts fs x (sc.put v k)
 | _,_=>false
end
mutual
def jk:PyData→PyData
 | .list xs=>.tuple (cN xs)
 | .tuple xs=>.tuple (cN xs)
 | d=>d
def cN:List PyData→List PyData
 | []=>[]
 | x::xs=>jk x::cN xs
end
theorem cn:∀ xs:List PyData,cN xs=xs.map jk
 | []=>rfl
 | x::xs=>by rw [cN,cn xs]; rfl
def yt:Option HO→Option (List V)
 | some (.lst xs)=>some xs
 | some (.tup xs)=>some xs
 | _=>none
def iL(H:Hp):V→Option (List V)
 | .ref a=>yt (H a)
 | _=>none
theorem iK{H:Hp}{a:Addr}{xs:List V}(h:LT H a xs):iL H (.ref a)=some xs:=by
 show yt (H a)=some xs
 rcases h with h | h <;> (rw [h]; rfl)
theorem fR{H:Hp}{a:Addr}{kvs:List (Key×V)}(h:H a=some (.dK kvs)):iL H (.ref a)=none:=by
 show yt (H a)=none
 rw [h]; rfl
inductive Sh(H:Hp):V→Prop where
 | non:Sh H .non
 | bl (b:Bool):Sh H (.bl b)
 | int (i:Int):Sh H (.int i)
 | str (z:Str):Sh H (.str z)
 | row {a:Addr} {xs:List V} (h:LT H a xs):Sh H (.ref a)
 | dct {a:Addr} {kvs:List (Key×V)} (h:H a=some (.dK kvs)):Sh H (.ref a)
theorem Sh.same{H H':Hp}{v:V}(h:Sh H v)(s:Same H H'):Sh H' v:=by
 cases h with
 | non=>exact .non
 | bl b=>exact .bl b
 | int i=>exact .int i
 | str z=>exact .str z
 | row h=>exact .row (h.same s)
 | dct h=>exact .dct (s _ _ h)
theorem Sh.rows{H H':Hp}{v:V}(h:Sh H v)(s:Same H H'):iL H' v=iL H v:=by
 cases h with
 | non=>rfl
 | bl b=>rfl
 | int i=>rfl
 | str z=>rfl
 | row h=>rw [iK h,iK (h.same s)]
 | dct h=>rw [fR h,fR (s _ _ h)]
theorem Sh.isi2{K:XC}{H:Hp}{v:V}(h:Sh H v):∃ t,d3 K H v t∧PySem.W.kitAny K t [.type "list",.type "tuple"]=some (iL H v).isSome:=by
 cases h with
 | non=>exact⟨_,.non,rfl⟩
 | bl b=>exact⟨_,.bl b,rfl⟩
 | int i=>exact⟨_,.int i,rfl⟩
 | str z=>exact⟨_,.str z,rfl⟩
 | row h=>
  obtain⟨t,h1,h2⟩:=h.isi2 (K:=K)
  exact⟨t,h1,by rw [iK h]; exact h2⟩
 | dct h=>exact⟨_,.dK h,by rw [fR h]; rfl⟩
def cY:V→Bool
 | .str _=>true
 | _=>false
theorem Sh.isS{K:XC}{H:Hp}{v:V}(h:Sh H v):∃ t,d3 K H v t∧PySem.W.kitOne K t (.type "str")=some (cY v):=by
 cases h with
 | non=>exact⟨_,.non,rfl⟩
 | bl b=>exact⟨_,.bl b,rfl⟩
 | int i=>exact⟨_,.int i,rfl⟩
 | str z=>exact⟨_,.str z,rfl⟩
 | row h=>
  rcases h with h | h
  ·exact⟨_,.lst h,rfl⟩
  ·exact⟨_,.tup h,rfl⟩
 | dct h=>exact⟨_,.dK h,rfl⟩
abbrev Rd0(H:Hp):V→PyData→Prop:=RdD (fun _=>True) H
abbrev aP(H:Hp):List V→List PyData→Prop:=RdB (fun _=>True) H
theorem Rd0.sh{H:Hp}{v:V}{d:PyData}(h:Rd0 H v d):Sh H v:=by
 cases h with
 | non=>exact .non
 | bl b=>exact .bl b
 | int i=>exact .int i
 | str x=>exact .str x
 | lst _ e _=>exact .row (.inl e)
 | tup _ e _=>exact .row (.inr e)
 | d0 _ e=>exact .dct e
 | d1 _ e=>exact .dct e
def jP:PyData→Option (List PyData)
 | .list xs=>some xs
 | .tuple xs=>some xs
 | _=>none
theorem Rd0.row{H:Hp}{v:V}{d:PyData}{ds:List PyData}(h:Rd0 H v d)(e:jP d=some ds):∃ a xs,v=.ref a∧LT H a xs∧aP H xs ds:=by
 cases h with
 | lst _ e1 r=>cases e; exact⟨_,_,rfl,.inl e1,r⟩
 | tup _ e1 r=>cases e; exact⟨_,_,rfl,.inr e1,r⟩
 | _=>cases e
theorem Rd0.rows{H:Hp}{v:V}{d:PyData}(h:Rd0 H v d):(iL H v).isSome=(jP d).isSome:=by
 cases h with
 | lst _ e r=>rw [iK (.inl e)]; rfl
 | tup _ e r=>rw [iK (.inr e)]; rfl
 | d0 _ e=>rw [fR e]; rfl
 | d1 _ e=>rw [fR e]; rfl
 | _=>rfl
theorem Rd0.same{H H':Hp}{v:V}{d:PyData}(h:Rd0 H v d)(s:Same H H'):Rd0 H' v d:=h.mono (fun _ z=>z) fun a o _ e=>s a o e
theorem aP.same{H H':Hp}{v:List V}{d:List PyData}(h:aP H v d)(s:Same H H'):aP H' v d:=RdB.mono (fun _ z=>z) (fun a o _ e=>s a o e) h
theorem aP.length{H:Hp}:∀ {xs:List V} {ds:List PyData},aP H xs ds→xs.length=ds.length
 | _,_,.nil=>rfl
 | _,_,.cons _ r=>congrArg Nat.succ (aP.length r)
def cR:PyData→Option (Str×List PyData)
 | .list (.str w::xs)=>some (w,xs)
 | .tuple (.str w::xs)=>some (w,xs)
 | _=>none
theorem bV{K:XC}{H:Hp}{a:Addr}{xs:List V}{i:Int}{v:V}{Q:VK}(h:SqL K H a xs∨SqT K H a xs)(hv:atI xs i=some v)(q:Q v H):rIx K (.ref a) (.int i) H Q:=
 h.elim (fun h=>.inl ⟨a,xs,i,v,rfl,rfl,h,hv,q⟩) fun h=>.inr (.inl ⟨a,xs,i,v,rfl,rfl,h,hv,q⟩)
section
inductive spIsListO(vs:List V)(H:Hp)(Q:VK)(e3_:XK):Prop | mk (v) (_:vs=[v]) (_:Sh H v) (_:∀ H',Same H H'→Q (.bl (iL H v).isSome) H')
theorem lX(F:ah K mg "is_list" eI lA8)(Z:Bl mg):aU P w K mg base "is_list" 1 lA8 spIsListO:=by
 have SC:=zbh
 refine F.mkE (k:=0) zbh (fun vs H Q E h=>?_) (fun f cdv A outer s H vs Q E hr h=>?_)
 ·obtain⟨v,rfl,_⟩:=h
  rfl
 ·obtain⟨v,rfl,hv,q⟩:=h
  refine'⟨_,?dv,?_⟩
  case dv=>(have:=af 1 30 11 43; walk_at "S1")
  refine⟨_,rfl,by show 2≤sizeLine; decide,fun t ht=>?_⟩
  have st:=ad ht (.tup [.ty "list",.ty "tuple"])
  obtain⟨ty,hty,hk⟩:=(hv.same st).isi2 (K:=K)
  rw [hv.rows st] at hk
  exact⟨_,t,ty,_,rfl,aa,hty,hk,q _ st⟩
abbrev dP:Stmt:=top 26
theorem zb6:aj lB8 lB8 (ag dP):=by walk_at "F"
inductive spManyE(N:Addr)(vs:List V)(H:Hp)(Q:VK)(E:XK):Prop | mk (l:Addr) (xs:List V) (n:Nat) (_:vs=[.ref l,.int n]) (_:H l=some (.lst xs)) (_:(xs.length=n→Q .non H)) (_:(xs.length≠n→∀ H',Same H H'→E (.ref N) none H'))
theorem ug{N:Addr}(F:ah K mg "check_many" dP lB8)(Z:Bl mg)(O_NoSaying:cw K mg "NoSaying" N):aU P w K mg base "check_many" 1 lB8 (spManyE N):=by
 have SC:=zb6
 refine F.mkE (k:=0) zb6 (fun vs H Q E h=>?_) (fun f cdv A outer s H vs Q E hr h=>?_)
 ·obtain⟨l,xs,n,rfl,_⟩:=h
  rfl
 ·obtain⟨l,xs,n,rfl,hl,q,no⟩:=h
  refine'⟨_,?dv,?_⟩
  case dv=>(walk_at "S1")
  refine⟨_,rfl,l,_,rfl,.inl (SqL.of hl),_,rfl,rfl,_,rfl,?_⟩
  by_cases hn:xs.length=n
  ·exact ifF (by rw [hn]; simp) (q hn)
  ·exact ifT (by simp; omega) ⟨by show 1≤sizeLine; decide,no hn _ (Same.refl _)⟩
abbrev b9:Stmt:=top 25
theorem zb7:aj ["thing","room","word","things"] lC6 (ag b9):=by walk_at "F"
inductive spWordE(N:Addr)(vs:List V)(H:Hp)(Q:VK)(E:XK):Prop | mk (v:V) (d:PyData) (r:Nat) (_:vs=[v,.int r]) (_:Rd0 H v d) (_:(∀ x ds,r≠0→cR d=some (x,ds)→∀ p l xs H',H' p=some (.tup [.str x,.ref l])→H' l=some (.lst xs)→aP H' xs ds→Same H H'→Q (.ref p) H')) (_:(r=0∨cR d=none→∀ H',Same H H'→E (.ref N) none H'))
theorem tW{N:Addr}(F:ah K mg "word_and_things" b9 lC6)(Z:Bl mg)(O_NoSaying:cw K mg "NoSaying" N)(D_is_list:aU P w K mg base "is_list" 1 lA8 spIsListO):aU P w K mg base "word_and_things" 2 lC6 (spWordE N):=by
 have SC:=zb7
 refine F.mkE (k:=1) zb7 (fun vs H Q E h=>?_) (fun f cdv A outer s H vs Q E hr h=>?_)
 ·obtain⟨v,d,r,rfl,_⟩:=h
  rfl
 ·obtain⟨v,d,r,rfl,hv,q,no⟩:=h
  refine'⟨_,?dv,?_⟩
  case dv=>(have:=af 2 96 66 91; have:=af 27 96 77 85; walk_at "S2")
  refine⟨_,rfl,rfl,_,rfl,?_⟩
  by_cases r0:r=0
  ·exact ifT (by simp [r0]) (ifT rfl ⟨by show 1≤sizeLine; decide,no (.inl r0) _ (Same.refl _)⟩)
  refine ifF (by simp; omega) ⟨_,rfl,v,rfl,hv.sh,fun H1 s1=>⟨_,rfl,?_⟩⟩
  rw [hv.rows]
  cases hk:jP d with
  | none=>
   have hw:cR d=none:=by cases d <;> first | rfl | cases hk
   exact ifT rfl (ifT rfl ⟨by show 1≤sizeLine; decide,no (.inr hw) _ s1⟩)
  | some ds=>
   obtain⟨a,xs,rfl,hL,hr⟩:=hv.row hk
   refine ifF (by simp) ⟨_,rfl,a,_,rfl,(hL.same s1).sq,rfl,_,rfl,?_⟩
   cases hr with
   | nil=>
    have hw:cR d=none:=by cases d <;> first | rfl | (cases hk; rfl) | cases hk
    exact ifT rfl (ifT rfl ⟨by show 1≤sizeLine; decide,no (.inr hw) _ s1⟩)
   | @cons x xs' d0 ds' h0 hr'=>
    obtain⟨ty,hty,hkt⟩:=(Rd0.sh (Rd0.same h0 s1)).isS (K:=K)
    refine ifF (by simp; omega) ⟨_,rfl,bV (hL.same s1).sq (aK (x:=x) (by decide) rfl) ⟨_,_,_,rfl,hty,hkt,_,rfl,?_⟩⟩
    by_cases hx:∃ z,d0=.str z
    ·obtain⟨z,rfl⟩:=hx
     cases h0
     have hw:cR d=some (z,ds'):=by cases d <;> first | (cases hk; rfl) | cases hk
     refine ifF (show ¬ (!cY (V.str z))=true from Yt) ?_
     refine⟨_,rfl,a,_,_,rfl,(hL.same s1).sq,fun l hl=>⟨_,_,rfl,_,_,rfl,rfl,?_⟩⟩
     refine⟨_,rfl,_,rfl,by show 2≤sizeLine; decide,fun p hp=>?_⟩
     have s2:=s1.trans (ad hl (.lst xs'))
     have s3:=s2.trans (ad hp (.tup [.str z,.ref l]))
     exact q z ds' r0 hw p l xs' _ aa (ad hp _ _ _ aa) (aP.same hr' s3) s3
    ·have hw:cR d=none:=by
      cases d <;> first | rfl | (cases hk; cases d0 <;> first | rfl | exact absurd ⟨_,rfl⟩ hx)
     have hs:cY x=false:=by cases h0 <;> first | rfl | exact absurd ⟨_,rfl⟩ hx
     rw [hs]
     exact ifT rfl ⟨by show 1≤sizeLine; decide,no (.inr hw) _ s1⟩
end
theorem Ae:¬ (("tie_places":Str)="known_kinds"):=by decide +kernel
theorem Ag:¬ (("function_places":Str)="known_kinds"):=by decide +kernel
theorem Af:¬ (("function_places":Str)="tie_places"):=by decide +kernel
theorem Aj:¬ (("function_kinds":Str)="known_kinds"):=by decide +kernel
theorem Ah:¬ (("function_kinds":Str)="tie_places"):=by decide +kernel
theorem Ai:¬ (("function_kinds":Str)="function_places"):=by decide +kernel
def fa1(a:Addr):List (Str×V):=aT "known_kinds" (.ref a) []
def fa2(a b:Addr):List (Str×V):=aT "tie_places" (.ref b) (fa1 a)
def fa3(a b c:Addr):List (Str×V):=aT "function_places" (.ref c) (fa2 a b)
def fa4(a b c d:Addr):List (Str×V):=aT "function_kinds" (.ref d) (fa3 a b c)
theorem Au(a b c d:Addr):(fa4 a b c d).lookup ("known_kinds":Str)=some (.ref a):=by
 unfold fa4 fa3 fa2 fa1
 rw [ao,if_neg (fun z=>Aj z.symm),ao,if_neg (fun z=>Ag z.symm),ao,if_neg (fun z=>Ae z.symm),ao,if_pos rfl]
theorem u9(a b c d:Addr):(fa4 a b c d).lookup ("tie_places":Str)=some (.ref b):=by
 unfold fa4 fa3 fa2
 rw [ao,if_neg (fun z=>Ah z.symm),ao,if_neg (fun z=>Af z.symm),ao,if_pos rfl]
theorem u8(a b c d:Addr):(fa4 a b c d).lookup ("function_places":Str)=some (.ref c):=by
 unfold fa4 fa3
 rw [ao,if_neg (fun z=>Ai z.symm),ao,if_pos rfl]
theorem At(a b c d:Addr):(fa4 a b c d).lookup ("function_kinds":Str)=some (.ref d):=by
 unfold fa4
 rw [ao,if_pos rfl]
structure ClT(K:XC)(C:Addr):Prop where
 cl:Cls K C
 n1:cu K C "known_kinds"
 n2:cu K C "tie_places"
 n3:cu K C "function_places"
 n4:cu K C "function_kinds"
def lg(C:Addr)(H:Hp)(x:Addr)(ks:List Str)(ts:List ar)(fs:List am):Prop:=
 ∃ (dx a b c d:Addr) (tp fp fk:List (Key×V)),H x=some (.ins C dx (fa4 a b c d))∧H a=some (.lst (ks.map V.str))∧H b=some (.dK tp)∧H c=some (.dK fp)∧H d=some (.dK fk)∧
  (∀ z ps,eX ts z=some ps→∃ q,aW tp (.inr z)=some (.ref q)∧H q=some (.tup (ps.map V.str)))∧(∀ z,eX ts z=none→aW tp (.inr z)=none)∧
  (∀ z ps k,gc fs z=some (ps,k)→∃ q,aW fp (.inr z)=some (.ref q)∧H q=some (.tup (ps.map V.str))∧aW fk (.inr z)=some (.str k))∧(∀ z,gc fs z=none→aW fp (.inr z)=none)
theorem lg.same{C:Addr}{H H':Hp}{x:Addr}{ks:List Str}{ts:List ar}{fs:List am}(h:lg C H x ks ts fs)(s:Same H H'):lg C H' x ks ts fs:=by
 obtain⟨dx,a,b,c,d,tp,fp,fk,h1,h2,h3,h4,h5,h6,h7,h8,h9⟩:=h
 refine⟨dx,a,b,c,d,tp,fp,fk,s _ _ h1,s _ _ h2,s _ _ h3,s _ _ h4,s _ _ h5,fun z ps e=>?_,h7,fun z ps k e=>?_,h9⟩
 ·obtain⟨q,e1,e2⟩:=h6 z ps e; exact⟨q,e1,s _ _ e2⟩
 ·obtain⟨q,e1,e2,e3⟩:=h8 z ps k e; exact⟨q,e1,s _ _ e2,e3⟩
theorem ln{fs:List am}{S:Sco}{d:PyData}{x:Str}{ds:List PyData}(h:cR d=some (x,ds)):aO fs S d=match gc fs x with
  | some (ps,k)=>if br fs S ds ps then some k else none
  | none=>none:=by
 cases d with
 | list xs=>
  match xs,h with
  | .str w::r,h=>cases h; rfl
 | tuple xs=>
  match xs,h with
  | .str w::r,h=>cases h; rfl
 | _=>cases h
theorem eC{d:PyData}{x:Str}{ds:List PyData}(h:cR d=some (x,ds)):d.depth=YG ds+1:=by
 cases d with
 | list xs=>
  match xs,h with
  | .str w::r,h=>cases h; simp [XB,YG]
 | tuple xs=>
  match xs,h with
  | .str w::r,h=>cases h; simp [XB,YG]
 | _=>cases h
theorem oS{d:PyData}{x:Str}{ds:List PyData}(h:cR d=some (x,ds)):jk d=.tuple (.str x::cN ds):=by
 cases d with
 | list xs=>
  match xs,h with
  | .str w::r,h=>cases h; rfl
 | tuple xs=>
  match xs,h with
  | .str w::r,h=>cases h; rfl
 | _=>cases h
theorem im{fs:List am}{S:Sco}{d:PyData}(h:cR d=none)(hs:∀ x,d≠.str x):aO fs S d=none:=by
 cases d with
 | str x=>exact absurd rfl (hs x)
 | list xs=>
  match xs,h with
  | [],_=>rfl
  | .str w::r,h=>cases h
  | .none::r,h=>rfl
  | .bool _::r,h=>rfl
  | .int _::r,h=>rfl
  | .list _::r,h=>rfl
  | .tuple _::r,h=>rfl
  | .dict _::r,h=>rfl
 | tuple xs=>
  match xs,h with
  | [],_=>rfl
  | .str w::r,h=>cases h
  | .none::r,h=>rfl
  | .bool _::r,h=>rfl
  | .int _::r,h=>rfl
  | .list _::r,h=>rfl
  | .tuple _::r,h=>rfl
  | .dict _::r,h=>rfl
 | _=>rfl
theorem row_iff{fs:List am}{S:Sco}:∀ {ds:List PyData} {ps:List Str},br fs S ds ps=true↔ds.length=ps.length∧∀ (i:Nat) (d:PyData) (p:Str),ds[i]? = some d→ps[i]? = some p→aO fs S d=some p
 | [],[]=>⟨fun _=>⟨rfl,fun i d p e=>by cases e⟩,fun _=>rfl⟩
 | [],_::_=>⟨fun h=>(by cases h),fun h=>(by cases h.1)⟩
 | _::_,[]=>⟨fun h=>(by cases h),fun h=>(by cases h.1)⟩
 | d::ds,p::ps=>by
  show (aO fs S d==some p&&br fs S ds ps)=true↔_
  rw [YK,row_iff (ds:=ds) (ps:=ps),beq_iff_eq]
  constructor
  ·rintro⟨h1,h2,h3⟩
   refine⟨congrArg Nat.succ h2,fun i d' p' a b=>?_⟩
   cases i with
   | zero=>cases a; cases b; exact h1
   | succ i=>exact h3 i d' p' a b
  ·rintro⟨h2,h3⟩
   exact⟨h3 0 d p rfl rfl,Nat.succ.inj h2,fun i d' p' a b=>h3 (i+1) d' p' a b⟩
theorem o6{fs:List am}{S:Sco}{ds:List PyData}{ps:List Str}{i:Nat}{d:PyData}{p:Str}(a:ds[i]? = some d)(b:ps[i]? = some p)(h:aO fs S d≠some p):br fs S ds ps=false:=by
 cases e:br fs S ds ps with
 | false=>rfl
 | true=>exact absurd ((row_iff.mp e).2 i d p a b) h
theorem o5{fs:List am}{S:Sco}{ds:List PyData}{ps:List Str}(h:ds.length≠ps.length):br fs S ds ps=false:=by
 cases e:br fs S ds ps with
 | false=>rfl
 | true=>exact absurd (row_iff.mp e).1 h
theorem aP.get{H:Hp}:∀ {xs:List V} {ds:List PyData} {i:Nat} {x:V},aP H xs ds→xs[i]? = some x→∃ d,ds[i]? = some d∧Rd0 H x d
 | _,_,0,_,.cons h _,e=>by cases e; exact⟨_,rfl,h⟩
 | _,_,i+1,_,.cons _ r,e=>aP.get (i:=i) r e
 | _,_,_,_,.nil,e=>by cases e
theorem aP.snoc{H:Hp}:∀ {xs:List V} {ds:List PyData} {x:V} {d:PyData},aP H xs ds→Rd0 H x d→aP H (xs++[x]) (ds++[d])
 | _,_,_,_,.nil,h=>.cons h .nil
 | _,_,_,_,.cons a r,h=>.cons a (aP.snoc r h)
theorem cZ:∀ {ds:List PyData} {i:Nat} {d:PyData},ds[i]? = some d→d.depth≤YG ds
 | d::ds,0,_,e=>by cases e; simp only [YG]; omega
 | _::ds,i+1,d,e=>by have:=cZ (ds:=ds) (i:=i) e; simp only [YG]; omega
mutual
theorem sQ{H:Hp}{D:Addr}{us:List V}(hD:H D=some (.lst us)):∀ {v:V} {e:PyData},Rd0 H v e→∀ d,e=jk d→RdD (fun a=>a≠D) H v e
 | _,_,.non,_,_=>.non
 | _,_,.bl b,_,_=>.bl b
 | _,_,.int i,_,_=>.int i
 | _,_,.str x,_,_=>.str x
 | _,_,.lst _ e z,d,q=>by cases d <;> cases q
 | _,_,.tup (ds:=es) _ e z,d,q=>by
  have : ∃ ds,es=cN ds:=by
   cases d with
   | list xs=>exact⟨xs,PyData.tuple.inj q⟩
   | tuple xs=>exact⟨xs,PyData.tuple.inj q⟩
   | _=>cases q
  obtain⟨ds,h⟩:=this
  exact .tup (fun w=>by rw [w,hD] at e; cases e) e (ph hD z ds h)
 | _,_,.d0 _ e,_,_=>.d0 (fun w=>by rw [w,hD] at e; cases e) e
 | _,_,.d1 _ e,_,_=>.d1 (fun w=>by rw [w,hD] at e; cases e) e
theorem ph{H:Hp}{D:Addr}{us:List V}(hD:H D=some (.lst us)):∀ {xs:List V} {es:List PyData},aP H xs es→∀ ds,es=cN ds→RdB (fun a=>a≠D) H xs es
 | _,_,.nil,_,_=>.nil
 | _,_,.cons a r,[],q=>by cases q
 | _,_,.cons a r,d::ds,q=>by
  have h:=List.cons.inj (show _::_=jk d::cN ds from q)
  exact .cons (sQ hD a d h.1) (ph hD r ds h.2)
end
theorem RdB.snoc{R:Addr→Prop}{H:Hp}:∀ {xs:List V} {ds:List PyData} {x:V} {d:PyData},RdB R H xs ds→RdD R H x d→RdB R H (xs++[x]) (ds++[d])
 | _,_,_,_,.nil,h=>.cons h .nil
 | _,_,_,_,.cons a r,h=>.cons a (RdB.snoc r h)
section
abbrev ce:Stmt:=top 23
theorem zb8:aj ["table","thing","scope","room","name","things","row"] lA4 (ag ce):=by walk_at "F"
abbrev bP:Stmt:=top 24
theorem zb9:aj ["table","things","places","scope","room","row","thing","place","term","kind"] lA5 (ag bP):=by walk_at "F"
inductive spTmE(C N:Addr)(n:Nat)(vs:List V)(H:Hp)(Q:VK)(E:XK):Prop | mk (x sc:Addr) (v:V) (r:Nat) (ks:List Str) (ts:List ar) (fs:List am) (S:Sco) (d:PyData) (_:vs=[.ref x,v,.ref sc,.int r]) (_:lg C H x ks ts fs) (_:(∀ f∈fs,f.ps.length≤2)) (_:lh H sc S) (_:Rd0 H v d) (_:d.depth≤n) (_:d.depth≤r) (_:(∀ k,aO fs S d=some k→∀ p u H',H' p=some (.tup [u,.str k])→Rd0 H' u (jk d)→Same H H'→Q (.ref p) H')) (_:(aO fs S d=none→∀ H',Same H H'→E (.ref N) none H'))
inductive spRowE(C N:Addr)(n:Nat)(vs:List V)(H:Hp)(Q:VK)(E:XK):Prop | mk (x sc l pl:Addr) (r:Nat) (ks:List Str) (ts:List ar) (fs:List am) (S:Sco) (xs:List V) (ds:List PyData) (ps:List Str) (_:vs=[.ref x,.ref l,.ref pl,.ref sc,.int r]) (_:lg C H x ks ts fs) (_:(∀ f∈fs,f.ps.length≤2)) (_:lh H sc S) (_:H l=some (.lst xs)) (_:aP H xs ds) (_:H pl=some (.tup (ps.map V.str))) (_:ps.length≤2) (_:YG ds≤n) (_:YG ds≤r) (_:(br fs S ds ps=true→∀ q us H',H q=none→H' q=some (.lst us)→aP H' us (cN ds)→Same H H'→Q (.ref q) H')) (_:(br fs S ds ps=false→∀ H',Same H H'→E (.ref N) none H'))
theorem iU{C N:Addr}(F:ah K mg "checked_row" bP lA5)(Z:Bl mg)(n_zip:mg "zip"=none)(O_NoSaying:cw K mg "NoSaying" N)(D_check_many:aU P w K mg base "check_many" 1 lB8 (spManyE N))(n:Nat)
  (D_checked_term:aU P w K mg base "checked_term" (2*n+3) lA4 (spTmE C N n)):aU P w K mg base "checked_row" (2*n+4) lA5 (spRowE C N n):=by
 have SC:=zb9
 refine F.mkE (k:=2*n+3) zb9 (fun vs H Q E h=>?_) (fun f cdv A outer s H vs Q E hr h=>?_)
 ·obtain⟨x,sc,l,pl,r,ks,ts,fs,S,xs,ds,ps,rfl,_⟩:=h
  rfl
 ·obtain⟨x,sc,l,pl,r,ks,ts,fs,S,xs,ds,ps,rfl,hT,hp2,hS,hl,hm,hp,h2,hn,hrr,q,no⟩:=h
  refine'⟨_,?dv,?_⟩
  case dv=>(walk_at "S2")
  have len1:=aP.length hm
  refine⟨_,rfl,_,rfl,pl,_,rfl,.inr (SqT.of hp),l,xs,ps.length,by rw [Yh]; rfl,hl,fun lenE=>?_,fun lenE H' s'=>no (o5 (by omega)) H' s'⟩
  have lenX:xs.length=(ps.map V.str).length:=by rw [Yh]; omega
  refine⟨by show 0≤sizeLine; decide,fun D hD=>?_⟩
  have s1:=ad hD (.lst [])
  refine⟨_,rfl,_,rfl,true,false,l,pl,xs,_,rfl,SqL.of (s1 _ _ hl),SqT.of (s1 _ _ hp),?_⟩
  refine u4 (K:=K) (b1:=true) (b2:=false) (a:=l) (b:=pl) (xs:=xs) (ys:=ps.map V.str) lenX (fun i σ H2=>∃ (us:List V) (v6 v7 v8 v9:Option V),σ=[some (.ref x),some (.ref l),some (.ref pl),some (.ref sc),some (.int r),some (.ref D),v6,v7,v8,v9]∧Same H H2∧H2 D=some (.lst us)∧us.length=i∧RdB (fun a=>a≠D) H2 us (cN (ds.take i))∧∀ j d p,j<i→ds[j]? = some d→ps[j]? = some p→aO fs S d=some p)
   ⟨[],none,none,none,none,rfl,s1,aa,rfl,.nil,fun j d p z=>by omega⟩ (by rintro i σ H2 _ ⟨_,_,_,_,_,_,y,_⟩;exact ⟨SqL.of (y _ _ hl),SqT.of (y _ _ hp)⟩) ?_ ?_
  ·rintro i y z σ H2 p hy hz hpn ⟨us,v6,v7,v8,v9,rfl,s2,eD,ul,hu,hk⟩
   rw [YB] at hz
   obtain⟨k,hk',rfl⟩:=Yx.mp hz
   obtain⟨d,hd',hmt⟩:=aP.get hm hy
   have dt:=cZ hd'
   have s3:=ad hpn (.tup [y,.str k])
   have s03:=s2.trans s3
   refine⟨p,_,rfl,SqT.of aa,rfl,_,_,rfl,_,_,rfl,rfl,?_⟩
   refine⟨_,rfl,_,rfl,_,rfl,_,rfl,x,sc,y,r,ks,ts,fs,S,d,rfl,hT.same s03,hp2,hS.same s03,Rd0.same hmt s03,by omega,by omega,fun k2 ek p2 u H3 e3 tu s4=>?_,fun ek H' s'=>no (o6 hd' hk' (by rw [ek]; simp)) H' (s03.trans s')⟩
   refine⟨p2,_,rfl,SqT.of e3,rfl,_,_,rfl,_,_,rfl,rfl,?_⟩
   refine⟨_,rfl,_,rfl,rfl,_,rfl,?_⟩
   by_cases hkk:k2=k
   rotate_left
   ·exact ifT (by simp; exact hkk) ⟨by show 1≤sizeLine; decide,no (o6 hd' hk' (by rw [ek]; simp; exact hkk)) _ (s03.trans s4)⟩
   subst hkk
   refine ifF (by simp) ?_
   have s23:=s3.trans s4
   have eD3:=s23 _ _ eD
   have il:i<2:=by have:=(Yv.mp hk').1; omega
   refine⟨_,rfl,.inl ⟨rfl,_,SqL.of eD3⟩,_,rfl,D,us,_,rfl,rfl,eD3,YI (show us.length≤2 by omega) (by decide),us++[u],_,_,_,_,rfl,fun c o e=>by rw [ac (ae e hD)]; exact s23 c o (s2 c o e),aa,by rw [Yw,ul]; rfl,?_,fun j d' p' hj a b=>?_⟩
   ·rw [YL,hd',cn,Yz,← cn]
    refine RdB.snoc (RdB.mono (fun _ z=>z) (fun c o z e=>by rw [ac z]; exact s23 c o e) hu) (RdD.mono (fun _ z=>z) (fun c o z e=>by rw [ac z]; exact e) (sQ eD3 tu d rfl))
   ·by_cases hji:j<i
    ·exact hk j d' p' hji a b
    ·obtain rfl:j=i:=by omega
     rw [a] at hd'
     rw [b] at hk'
     cases hd'
     cases hk'
     exact ek
  ·rintro σ H2 ⟨us,v6,v7,v8,v9,rfl,s2,eD,ul,hu,hk⟩
   rw [len1,YQ] at hu
   exact⟨_,rfl,q (row_iff.mpr ⟨by omega,fun i d p a b=>hk i d p (by have:=(Yv.mp a).1; omega) a b⟩) D us H2 hD eD (RdB.mono (fun _ _=>trivial) (fun _ _ _ e=>e) hu) s2⟩
def kq(C N:Addr):Nat→Sp
 | 0=>fun _ _ _ _=>False
 | n+1=>spRowE C N n
theorem nE{C N:Addr}{m:Nat}{vs:List V}{H:Hp}{Q:VK}{E:XK}(h:spRowE C N m vs H Q E):kq C N (m+1) vs H Q E:=h
theorem uc{C N:Addr}(F:ah K mg "checked_row" bP lA5):aU P w K mg base "checked_row" 2 lA5 (kq C N 0):=
 F.mkE (k:=1) zb9 (fun vs H Q E h=>False.elim h) fun f cdv A outer s H vs Q E hr h=>False.elim h
theorem gU{C N:Addr}(F:ah K mg "checked_term" ce lA4)(Z:Bl mg)(T:ClT K C)(O_NoSaying:cw K mg "NoSaying" N)(D_word_and_things:aU P w K mg base "word_and_things" 2 lC6 (spWordE N))(n:Nat)
  (D_checked_row:aU P w K mg base "checked_row" (2*n+2) lA5 (kq C N n)):aU P w K mg base "checked_term" (2*n+3) lA4 (spTmE C N n):=by
 have SC:=zb8
 refine F.mkE (k:=2*n+2) zb8 (fun vs H Q E h=>?_) (fun f cdv A outer s H vs Q E hr h=>?_)
 ·obtain⟨x,sc,v,r,ks,ts,fs,S,d,rfl,_⟩:=h
  rfl
 ·obtain⟨x,sc,v,r,ks,ts,fs,S,d,rfl,hT,hp2,hS,hv,hn,hrr,q,no⟩:=h
  refine'⟨_,?dv,?_⟩
  case dv=>(have:=af 2 77 7 29; have:=af 17 84 37 64; have:=af 17 85 33 59; have:=af 17 80 23 35; have:=af 25 85 18 30; have:=af 28 82 7 40; have:=af 28 78 11 29; walk_at "S2")
  obtain⟨ty,hty,hk⟩:=(Rd0.sh hv).isS (K:=K)
  by_cases hx:∃ z,d=.str z
  ·obtain⟨x0,rfl⟩:=hx
   cases hv
   obtain⟨kvs,e1,_,e2⟩:=id hS
   have hg:dX H sc (.str x0) (aW kvs (.inr x0)):=dX.k (k:=.inr x0) e1
   rw [e2] at hg
   refine⟨_,rfl,_,ty,_,rfl,hty,hk,_,rfl,ifT rfl ?_⟩
   refine⟨_,rfl,_,rfl,sc,_,rfl,hg,_,rfl,?_⟩
   cases hs:S x0 with
   | none=>exact ifT rfl ⟨by show 1≤sizeLine; decide,no hs _ (Same.refl _)⟩
   | some k=>
    rw [hs] at hg
    refine cX ?_
    exact⟨_,rfl,_,rfl,_,rfl,sc,_,rfl,hg,by show 2≤sizeLine; decide,fun p hp=>q k hs p _ _ aa (.str _) (ad hp _)⟩
  ·have hs:∀ z,d≠.str z:=fun z e=>hx ⟨z,e⟩
   have hst:cY v=false:=by cases hv <;> first | rfl | exact absurd rfl (hs _)
   rw [hst] at hk
   refine⟨_,rfl,_,ty,false,rfl,hty,hk,false,rfl,cX ?_⟩
   refine⟨_,rfl,_,rfl,v,d,r,rfl,hv,fun w0 ds r0 hw p l xs H1 e1 e2 m1 s1=>?_,fun hno H' s'=>?_⟩
   rotate_left
   ·rcases hno with z | z
    ·cases hw:cR d with
     | none=>exact no (im hw hs) H' s'
     | some y=>have:=eC (x:=y.1) (ds:=y.2) hw; omega
    ·exact no (im z hs) H' s'
   have hdp:=eC hw
   have hkd:=ln (fs:=fs) (S:=S) hw
   have htd:=oS hw
   obtain⟨m,rfl⟩:∃ m,n=m+1:=⟨n-1,by omega⟩
   obtain⟨r,rfl⟩:∃ r',r=r'+1:=⟨r-1,by omega⟩
   refine⟨p,_,rfl,SqT.of e1,rfl,_,_,rfl,_,_,rfl,rfl,?_⟩
   have hT1:=hT.same s1
   obtain⟨dx,ka,tb,fb,kb,tp,fp,fk,h1,h2,h3,h4,h5,h6,h7,h8,h9⟩:=id hT1
   have hg:∀ H',Same H1 H'→dX H' fb (.str w0) (aW fp (.inr w0)):=fun H' s=>dX.k (k:=.inr w0) (s _ _ h4)
   cases hf:gc fs w0 with
   | none=>
    rw [hf] at hkd
    have hg1:=hg H1 (Same.refl _)
    rw [h9 w0 hf] at hg1
    exact⟨_,rfl,_,rfl,x,C,dx,_,_,rfl,h1,T.cl,T.n3,u8 _ _ _ _,fb,_,rfl,hg1,_,rfl,ifT rfl ⟨by show 1≤sizeLine; decide,no hkd _ s1⟩⟩
   | some y=>
    obtain⟨ps,k⟩:=y
    rw [hf] at hkd
    replace hkd:aO fs S d=if br fs S ds ps then some k else none:=hkd
    obtain⟨pl,g1,g2,g3⟩:=h8 w0 ps k hf
    rw [g1] at hg
    have hgk:∀ H',Same H1 H'→dX H' kb (.str w0) (some (.str k)):=fun H' s=>by
     have:=dX.k (k:=.inr w0) (s _ _ h5)
     rw [g3] at this
     exact this
    have pl2:ps.length≤2:=by
     unfold gc at hf
     obtain⟨t,ht,e⟩:=Yx.mp hf
     cases e
     exact hp2 t (Xw ht)
    refine⟨_,rfl,_,rfl,x,C,dx,_,_,rfl,h1,T.cl,T.n3,u8 _ _ _ _,fb,_,rfl,hg H1 (Same.refl _),_,rfl,cX ?_⟩
    refine⟨_,rfl,_,rfl,_,rfl,x,C,dx,_,_,rfl,h1,T.cl,T.n3,u8 _ _ _ _,_,rfl,fb,_,rfl,hg H1 (Same.refl _),_,rfl,_,rfl,_,1,rfl,rfl,?_⟩
    unfold eY
    refine nE ?_
    refine⟨x,sc,l,pl,r,ks,ts,fs,S,xs,ds,ps,by rw [Int.natCast_add]; simp,hT1,hp2,hS.same s1,e2,m1,g2,pl2,by omega,by omega,fun hrow q' us H2 hq' e3 tu s2=>?_,fun hrow H' s'=>no (by rw [hkd,hrow]; rfl) H' (s1.trans s')⟩
    rw [hrow] at hkd
    refine⟨_,rfl,by show 1≤sizeLine; decide,fun l1 hl1=>?_⟩
    have s3:=ad hl1 (.lst [.str w0])
    have usl:=aP.length tu
    have ll:=(row_iff.mp hrow).1
    rw [cn,Yh] at usl
    refine⟨_,rfl,l1,q',_,_,rfl,rfl,aa,s3 _ _ e3,Yn (show 1+us.length≤100 by omega) (by decide),fun L hL=>?_⟩
    refine⟨L,_,rfl,.inl ⟨SqL.of aa,fun tt htt=>?_⟩⟩
    have s4:=ad hL (.lst ([.str w0]++us))
    have s5:=ad htt (.tup ([.str w0]++us))
    have s25:=(s3.trans s4).trans s5
    have s15:=s2.trans s25
    refine⟨_,rfl,x,C,dx,_,_,rfl,s15 _ _ h1,T.cl,T.n4,At _ _ _ _,_,rfl,kb,_,rfl,hgk _ s15,by show 2≤sizeLine; decide,fun pp hpp=>?_⟩
    have s6:=ad hpp (.tup [.ref tt,.str k])
    refine q k hkd pp (.ref tt) _ aa ?_ (s1.trans (s15.trans s6))
    rw [htd]
    exact .tup trivial (s6 _ _ aa) (.cons (.str _) (aP.same tu (s25.trans s6)))
theorem jM{C N:Addr}(F1:ah K mg "checked_term" ce lA4)(F2:ah K mg "checked_row" bP lA5)(Z:Bl mg)(T:ClT K C)(n_zip:mg "zip"=none)(O_NoSaying:cw K mg "NoSaying" N)
  (D_word_and_things:aU P w K mg base "word_and_things" 2 lC6 (spWordE N)) (D_check_many:aU P w K mg base "check_many" 1 lB8 (spManyE N)) :
  ∀ n,aU P w K mg base "checked_term" (2*n+3) lA4 (spTmE C N n)∧aU P w K mg base "checked_row" (2*n+4) lA5 (spRowE C N n)
 | 0=>
  have h1:=gU F1 Z T O_NoSaying D_word_and_things 0 (uc F2)
  ⟨h1,iU F2 Z n_zip O_NoSaying D_check_many 0 h1⟩
 | n+1=>by
  have ih:=jM F1 F2 Z T n_zip O_NoSaying D_word_and_things D_check_many n
  have h1:=gU (C:=C) (N:=N) F1 Z T O_NoSaying D_word_and_things (n+1) (by
   rw [show 2*(n+1)+2=2*n+4 from by omega]
   exact ih.2)
  exact⟨h1,iU F2 Z n_zip O_NoSaying D_check_many (n+1) h1⟩
end
section
abbrev bf:Stmt:=top 21
theorem zca:aj ["table","things","scope","room","left","left_kind","right","right_kind"] lB7 (ag bf):=by walk_at "F"
inductive spEqE(C N:Addr)(n:Nat)(vs:List V)(H:Hp)(Q:VK)(E:XK):Prop | mk (x sc l:Addr) (r:Nat) (ks:List Str) (ts:List ar) (fs:List am) (S:Sco) (xs:List V) (ds:List PyData) (_:vs=[.ref x,.ref l,.ref sc,.int r]) (_:lg C H x ks ts fs) (_:(∀ f∈fs,f.ps.length≤2)) (_:lh H sc S) (_:H l=some (.lst xs)) (_:aP H xs ds) (_:YG ds≤n) (_:YG ds≤r) (_:(eqD fs S ds=true→∀ u H',Rd0 H' u (.tuple (.str "="::cN ds))→Same H H'→Q u H')) (_:(eqD fs S ds=false→∀ H',Same H H'→E (.ref N) none H'))
theorem uq{C N:Addr}(F:ah K mg "checked_equation" bf lB7)(Z:Bl mg)(O_NoSaying:cw K mg "NoSaying" N)(D_check_many:aU P w K mg base "check_many" 1 lB8 (spManyE N))(n:Nat)
  (D_checked_term:aU P w K mg base "checked_term" (2*n+3) lA4 (spTmE C N n)):aU P w K mg base "checked_equation" (2*n+4) lB7 (spEqE C N n):=by
 have SC:=zca
 refine F.mkE (k:=2*n+3) zca (fun vs H Q E h=>?_) (fun f cdv A outer s H vs Q E hr h=>?_)
 ·obtain⟨x,sc,l,r,ks,ts,fs,S,xs,ds,rfl,_⟩:=h
  rfl
 ·obtain⟨x,sc,l,r,ks,ts,fs,S,xs,ds,rfl,hT,hp2,hS,hl,hm,hn,hrr,q,no⟩:=h
  refine'⟨_,?dv,?_⟩
  case dv=>(walk_at "S2")
  have len1:=aP.length hm
  refine⟨_,rfl,l,xs,2,rfl,hl,fun lenE=>?_,fun lenE H' s'=>no ?_ H' s'⟩
  rotate_left
  ·match ds,len1 with
   | [],_=>rfl
   | [_],_=>rfl
   | [_,_],z=>exact absurd z lenE
   | _::_::_::_,_=>rfl
  obtain⟨va,vb,rfl⟩:=Few.le2 lenE
  cases hm with
  | @cons _ _ da _ ma m1=>
  cases m1 with
  | @cons _ _ db _ mb m1=>
  cases m1
  have d1:da.depth≤YG [da,db]:=cZ (i:=0) rfl
  have d2:db.depth≤YG [da,db]:=cZ (i:=1) rfl
  have hE:eqD fs S [da,db]=((aO fs S da).isSome&&aO fs S da==aO fs S db):=rfl
  refine⟨_,rfl,_,rfl,l,_,_,_,rfl,rfl,SqL.of hl,rfl,_,rfl,_,rfl,x,sc,va,r,ks,ts,fs,S,da,rfl,hT,hp2,hS,ma,by omega,by omega,fun k1 ek1 p1 ua H1 e1 t1 s1=>?_,fun ek H' s'=>no (by rw [hE,ek]; rfl) H' s'⟩
  refine⟨p1,_,rfl,SqT.of e1,rfl,_,_,rfl,_,_,rfl,rfl,?_⟩
  refine⟨_,rfl,_,rfl,l,_,_,_,rfl,rfl,SqL.of (s1 _ _ hl),rfl,_,rfl,_,rfl,x,sc,vb,r,ks,ts,fs,S,db,rfl,hT.same s1,hp2,hS.same s1,Rd0.same mb s1,by omega,by omega,fun k2 ek2 p2 ub H2 e2 t2 s2=>?_,fun ek H' s'=>no (by rw [hE,ek1,ek]; rfl) H' (s1.trans s')⟩
  refine⟨p2,_,rfl,SqT.of e2,rfl,_,_,rfl,_,_,rfl,rfl,?_⟩
  refine⟨_,rfl,_,rfl,rfl,_,rfl,?_⟩
  by_cases hk:k1=k2
  rotate_left
  ·exact ifT (by simp; exact hk) ⟨by show 1≤sizeLine; decide,no (by rw [hE,ek1,ek2]; simp; exact hk) _ (s1.trans s2)⟩
  subst hk
  refine ifF (by simp) ?_
  refine⟨_,rfl,_,rfl,by show 3≤sizeLine; decide,fun p3 hp3=>?_⟩
  have s3:=ad hp3 (.tup [.str "=",ua,ub])
  exact q (by rw [hE,ek1,ek2]; simp) _ _ (.tup trivial aa (.cons (.str _) (.cons (Rd0.same t1 (s2.trans s3)) (.cons (Rd0.same t2 s3) .nil)))) (s1.trans (s2.trans s3))
end
def nmV:V→Bool
 | .str z=>nmB z
 | _=>false
section
inductive spNameE(vs:List V)(H:Hp)(Q:VK)(e3_:XK):Prop | mk (v) (_:vs=[v]) (_:Sh H v) (_:(∀ z,v=.str z→z.length≤100000)) (_:∀ H',Same H H'→Q (.bl (nmV v)) H')
theorem ue(F:ah K mg "is_name" eG lA8)(Z:Bl mg)(G:Gs K mg):aU P w K mg base "is_name" 1 lA8 spNameE:=by
 have SC:=zbi
 obtain⟨_,g_LETTERS,r_LETTERS⟩:=G.letters
 obtain⟨_,g_LONGEST_NAME,r_LONGEST_NAME⟩:=G.longest
 refine F.mkE (k:=0) zbi (fun vs H Q E h=>?_) (fun f cdv A outer s H vs Q E hr h=>?_)
 ·obtain⟨v,rfl,_⟩:=h
  rfl
 ·obtain⟨v,rfl,hv,hlen,q⟩:=h
  refine'⟨_,?dv,?_⟩
  case dv=>(have:=af 2 32 11 33; have:=af 3 34 16 31; have:=af 4 32 46 56; have:=bG 34 15 50 1 ["sign","thing"]; have:=af 5 34 44 49; have:=af 6 34 16 31; walk_at "S2")
  obtain⟨ty,hty,hk⟩:=hv.isS (K:=K)
  refine⟨_,rfl,_,_,_,rfl,hty,hk,?_⟩
  by_cases hs:∃ z,v=.str z
  ·obtain⟨z,rfl⟩:=hs
   have hz:=eE z
   have hcs:z.cps.size=z.cps.toList.length:=by simp
   have hB:nmV (.str z)=(decide (1≤z.cps.toList.length)&&decide (z.cps.toList.length≤12)&&z.cps.toList.all g9):=rfl
   refine⟨true,rfl,cX ?_⟩
   refine⟨_,rfl,_,rfl,Yn (hlen z rfl) (by decide),_,_,rfl,rfl,_,rfl,?_⟩
   by_cases h1:1≤z.cps.toList.length
   ·refine ifT (decide_eq_true (by omega)) ?_
    refine⟨_,_,rfl,rfl,_,rfl,?_⟩
    by_cases h2:z.cps.toList.length≤12
    ·rw [decide_eq_true h1,decide_eq_true h2] at hB
     refine ifF (by simp; omega) ?_
     refine⟨_,rfl,z,rfl,?_⟩
     intro cl C ex s0 H0
     refine bH z.cps.size (fun i ys H1=>ys=((z.cps.toList.take i).map g9).map V.bl∧H1=H) (fun i x=>∃ c,z.cps[i]? = some c∧x=.str ⟨#[c]⟩) ⟨rfl,rfl⟩ (Yn (show z.cps.size≤12 by omega) (by decide)) (fun i ys H1 hi _ _=>on hi) (fun ys H1 _ _=>iA) ?_ ?_
     ·rintro i x ys H1 hi ⟨c,hc,rfl⟩ hy ⟨rfl,rfl⟩
      have hm:z.cps.toList[i]? = some c:=by simpa using hc
      refine⟨_,rfl,_,_,rfl,rfl,?_,rfl⟩
      rw [YL,hm]
      show _=List.map V.bl (List.map g9 (List.take i z.cps.toList++[c]))
      rw [Yz,Yz]
      rfl
     ·rintro ys H1 hy ⟨rfl,rfl⟩ D hD
      refine⟨D,(z.cps.toList.take z.cps.size).map g9,rfl,SqL.of aa,?_⟩
      have:=q _ (ad hD (.lst (((z.cps.toList.take z.cps.size).map g9).map V.bl)))
      rw [hB] at this
      rw [YF (by omega)] at this ⊢
      rw [List.all_map]
      exact this
    ·rw [decide_eq_false h2,Bool.and_false,Xo] at hB
     have:=q _ (Same.refl _)
     rw [hB] at this
     exact ifT (by simp; omega) this
   ·rw [decide_eq_false h1,Xo,Xo] at hB
    have:=q _ (Same.refl _)
    rw [hB] at this
    refine ifF (by simp; omega) ?_
    exact⟨false,rfl,uN this⟩
  ·have hst:cY v=false:=by cases v <;> first | rfl | exact absurd ⟨_,rfl⟩ hs
   have hB:nmV v=false:=by cases v <;> first | rfl | exact absurd ⟨_,rfl⟩ hs
   have:=q _ (Same.refl _)
   rw [hB] at this
   exact⟨false,by rw [hst],uN this⟩
end
def ScB(H:Hp)(a:Addr)(sc:Str→Option Str)(b:Nat):Prop:=∃ kvs:List (Key×V),H a=some (.dK kvs)∧kvs.length≤b∧∀ x:Str,aW kvs (.inr x)=(sc x).map V.str
theorem ScB.same{H H':Hp}{a:Addr}{sc:Str→Option Str}{b:Nat}(h:ScB H a sc b)(s:Same H H'):ScB H' a sc b:=let ⟨kvs,e,r⟩:=h; ⟨kvs,s _ _ e,r⟩
theorem ScB.at{H:Hp}{a:Addr}{sc:Str→Option Str}{b:Nat}(h:ScB H a sc b)(hb:b≤100):lh H a sc:=let ⟨kvs,e,l,r⟩:=h; ⟨kvs,e,Yn l hb,r⟩
mutual
def dq:PyData→Bool
 | .str x=>decide (x.length≤100000)
 | .list xs=>decide (xs.length≤100000)&&bK xs
 | .tuple xs=>decide (xs.length≤100000)&&bK xs
 | _=>true
def bK:List PyData→Bool
 | []=>true
 | x::xs=>dq x&&bK xs
end
theorem Rd0.len{H:Hp}{v:V}{d:PyData}(h:Rd0 H v d)(s:dq d=true):∀ z,v=.str z→z.length≤100000:=by
 rintro z rfl
 cases h
 exact of_decide_eq_true s
theorem uz{H:Hp}{v:V}{d:PyData}(h:Rd0 H v d)(n:nmV v=true):∃ z,v=.str z∧d=.str z∧nmB z=true:=by
 cases h <;> first | exact⟨_,rfl,rfl,n⟩ | cases n
theorem mR{ks:List Str}{ts:List ar}{fs:List am}{S:Sco}{H:Hp}{v:V}{d0 d1 d2:PyData}(h:Rd0 H v d0)(n:nmV v=false):ck ks ts fs [d0,d1,d2] S=false:=by
 cases h with
 | str z=>cases d1 <;> first | rfl | (show (true&&nmB z&&_&&_)=false; rw [show nmB z=false from n]; rfl)
 | _=>rfl
theorem gi{ks:List Str}{ts:List ar}{fs:List am}{S:Sco}{xn kd:Str}{d:PyData}:ck ks ts fs [.str xn,.str kd,d] S=(true&&nmB xn&&ks.contains kd&&bZ ks ts fs d (S.put xn kd)):=rfl
theorem vw{ks:List Str}{ts:List ar}{fs:List am}{S:Sco}{H:Hp}{v:V}{xn:Str}{d1 d2:PyData}(kn:∀ k∈ks,b6 k)(h:Rd0 H v d1)(n:nmV v=false):ck ks ts fs [.str xn,d1,d2] S=false:=by
 cases h with
 | str z=>
  have hz:ks.contains z=false:=by
   cases e:ks.contains z with
   | false=>rfl
   | true=>
    have h2:=AX (kn z (List.contains_iff_mem.mp e))
    rw [show nmB z=false from n] at h2
    cases h2
  rw [gi,hz]
  simp
 | _=>rfl
section
abbrev aX:Stmt:=top 22
theorem zcb:aj ["table","word","things","scope","room","variable","kind","part","inner"] lA9 (ag aX):=by walk_at "F"
inductive spSayE(C N:Addr)(n:Nat)(vs:List V)(H:Hp)(Q:VK)(E:XK):Prop | mk (x sc:Addr) (v:V) (r:Nat) (ks:List Str) (ts:List ar) (fs:List am) (S:Sco) (bb:Nat) (d:PyData) (_:vs=[.ref x,v,.ref sc,.int r]) (_:lg C H x ks ts fs) (_:aV ks ts fs) (_:ScB H sc S bb) (_:bb+n≤100) (_:Rd0 H v d) (_:dq d=true) (_:d.depth≤n) (_:d.depth≤r) (_:(bZ ks ts fs d S=true→∀ u H',Rd0 H' u (jk d)→Same H H'→Q u H')) (_:(bZ ks ts fs d S=false→∀ H',Same H H'→E (.ref N) none H'))
inductive spBindE(C N:Addr)(n:Nat)(vs:List V)(H:Hp)(Q:VK)(E:XK):Prop | mk (x sc l:Addr) (r:Nat) (ks:List Str) (ts:List ar) (fs:List am) (S:Sco) (bb:Nat) (wd:Str) (xs:List V) (ds:List PyData) (_:vs=[.ref x,.str wd,.ref l,.ref sc,.int r]) (_:lg C H x ks ts fs) (_:aV ks ts fs) (_:ScB H sc S bb) (_:bb+1+n≤100) (_:H l=some (.lst xs)) (_:aP H xs ds) (_:bK ds=true) (_:YG ds≤n) (_:YG ds≤r) (_:(ck ks ts fs ds S=true→∀ u H',Rd0 H' u (.tuple (.str wd::cN ds))→Same H H'→Q u H')) (_:(ck ks ts fs ds S=false→∀ H',Same H H'→E (.ref N) none H'))
theorem ur{C N:Addr}(F:ah K mg "checked_binding" aX lA9)(Z:Bl mg)(n_dict:mg "dict"=none)(T:ClT K C)(O_NoSaying:cw K mg "NoSaying" N)(D_check_many:aU P w K mg base "check_many" 1 lB8 (spManyE N))(D_is_name:aU P w K mg base "is_name" 1 lA8 spNameE)(n k:Nat)
  (D_checked_saying:aU P w K mg base "checked_saying" (k+1) lA4 (spSayE C N n)):aU P w K mg base "checked_binding" (k+2) lA9 (spBindE C N n):=by
 have SC:=zcb
 refine F.mkE (k:=k+1) zcb (fun vs H Q E h=>?_) (fun f cdv A outer s H vs Q E hr h=>?_)
 ·obtain⟨x,sc,l,r,ks,ts,fs,S,bb,wd,xs,ds,rfl,_⟩:=h
  rfl
 ·obtain⟨x,sc,l,r,ks,ts,fs,S,bb,wd,xs,ds,rfl,hT,ok,hS,hb,hl,hm,hsh,hn,hrr,q,no⟩:=h
  refine'⟨_,?dv,?_⟩
  case dv=>(have:=af 9 68 4 24; have:=af 15 74 4 26; walk_at "S2")
  have len1:=aP.length hm
  refine⟨_,rfl,l,xs,3,rfl,hl,fun lenE=>?_,fun lenE H' s'=>no ?_ H' s'⟩
  rotate_left
  ·match ds,len1 with
   | [],_=>rfl
   | [_],_=>cases ‹PyData› <;> rfl
   | [a,b],_=>cases a <;> first | rfl | (cases b <;> rfl)
   | [_,_,_],z=>exact absurd z lenE
   | a::b::c::d::r,_=>cases a <;> first | rfl | (cases b <;> rfl)
  obtain⟨va,vb,vc,rfl⟩:=Few.le3 lenE
  cases hm with
  | @cons _ _ d0 _ m0 hm=>
  cases hm with
  | @cons _ _ d1 _ m1 hm=>
  cases hm with
  | @cons _ _ d2 _ m2 hm=>
  cases hm
  simp only [bK,YK] at hsh
  obtain⟨sh0,sh1,sh2,_⟩:=hsh
  have dp2:d2.depth≤YG [d0,d1,d2]:=cZ (i:=2) rfl
  refine⟨_,rfl,l,_,rfl,.inl (SqL.of hl),rfl,_,_,rfl,_,_,rfl,_,_,rfl,rfl,?_⟩
  refine⟨_,rfl,va,rfl,Rd0.sh m0,Rd0.len m0 sh0,fun H1 s1=>⟨_,rfl,?_⟩⟩
  cases hx:nmV va with
  | false=>exact ifT rfl ⟨by show 1≤sizeLine; decide,no (mR m0 hx) _ s1⟩
  | true=>
  obtain⟨xn,rfl,rfl,hxn⟩:=uz m0 hx
  refine ifF (by decide) ?_
  refine⟨_,rfl,vb,rfl,Rd0.sh (Rd0.same m1 s1),Rd0.len m1 sh1,fun H2 s2=>⟨_,rfl,?_⟩⟩
  have s02:=s1.trans s2
  cases hkn:nmV vb with
  | false=>exact ifT rfl (ifT rfl ⟨by show 1≤sizeLine; decide,no (vw ok.kn2 m1 hkn) _ s02⟩)
  | true=>
  obtain⟨kd,rfl,rfl,_⟩:=uz m1 hkn
  refine ifF (by decide) ?_
  have hT2:=hT.same s02
  obtain⟨dx,ka,tb,fb,kb,tp,fp,fk,h1,h2,h3,h4,h5,h6,h7,h8,h9⟩:=id hT2
  refine⟨_,rfl,_,rfl,x,C,dx,_,_,rfl,h1,T.cl,T.n1,Au _ _ _ _,ka,_,rfl,.inl (SqL.of h2),rfl,dF ks,_,rfl,?_⟩
  by_cases hk:kd∈ks
  rotate_left
  ·refine ifT ?_ ⟨by show 1≤sizeLine; decide,no ?_ _ s02⟩
   ·rw [cF,decide_eq_false hk]
    rfl
   ·rw [gi,show ks.contains kd=false from by simpa using hk]
    simp
  have hbd:ck ks ts fs [.str xn,.str kd,d2] S=bZ ks ts fs d2 (S.put xn kd):=by
   rw [gi,hxn,show ks.contains kd=true from by simpa using hk]
   simp
  rw [hbd] at q no
  refine ifF ?_ ?_
  ·rw [cF,decide_eq_true hk]
   decide
  obtain⟨kvs,e1,el,e2⟩:=hS.same s02
  refine⟨_,rfl,sc,kvs,rfl,e1,fun d hd=>?_⟩
  have s3:=ad hd (.dK kvs)
  refine⟨_,rfl,_,rfl,_,rfl,d,_,rfl,oO.k (k:=.inr xn) aa (YI (show kvs.length≤100 by omega) (by decide)),?_⟩
  have s4:Same H2 (upd (upd H2 d (.dK kvs)) d (.dK (cr kvs (.inr xn) (.str kd)))):=fun c o e=>by rw [ac (ae e hd)]; exact s3 c o e
  have eS:ScB (upd (upd H2 d (.dK kvs)) d (.dK (cr kvs (.inr xn) (.str kd)))) d (S.put xn kd) (bb+1):=by
   refine⟨_,aa,Yn (bE _ _ _) (by omega),fun y=>?_⟩
   rw [d6]
   unfold Sco.put
   by_cases hy:y=xn
   ·rw [if_pos (by rw [hy]),if_pos hy]; rfl
   ·rw [if_neg (fun z=>hy (Sum.inr.inj z)),if_neg hy]; exact e2 y
  generalize (upd (upd H2 d (.dK kvs)) d (.dK (cr kvs (.inr xn) (.str kd))))=H4 at s4 eS
  have s04:=s02.trans s4
  refine⟨_,rfl,_,rfl,_,rfl,_,rfl,_,rfl,_,rfl,_,rfl,x,d,vc,r,ks,ts,fs,S.put xn kd,bb+1,d2,rfl,hT.same s04,ok,eS,by omega,Rd0.same m2 s04,sh2,by omega,by omega,fun hy u H5 tu s5=>?_,fun hy H' s'=>no hy H' (s04.trans s')⟩
  refine⟨by show 4≤sizeLine; decide,fun p hp=>?_⟩
  have s6:=ad hp (.tup [.str wd,.str xn,.str kd,u])
  exact q hy _ _ (.tup trivial aa (.cons (.str _) (.cons (.str _) (.cons (.str _) (.cons (Rd0.same tu s6) .nil))))) (s04.trans (s5.trans s6))
end
theorem uR{K:XC}{z:Str}{ws:List Str}{H:Hp}{Q:VK}(hz:(ws.map V.str).length≤sizeLine)(q:∀ tt,H tt=none→Q (.bl (decide (z∈ws))) (upd H tt (.tup (ws.map V.str)))):(ws.map V.str).length≤sizeLine∧∀ p,H p=none→rIn K false (.str z) (.ref p) (upd H p (.tup (ws.map V.str))) Q:=
 ⟨hz,fun tt htt=>⟨tt,ws.map V.str,rfl,.inr (SqT.of aa),rfl,dF ws,by have:=q tt htt; rw [← cF] at this; exact this⟩⟩
theorem oU{ks:List Str}{ts:List ar}{fs:List am}{S:Sco}{d:PyData}{x:Str}{ds:List PyData}(h:cR d=some (x,ds)):bZ ks ts fs d S=di ks ts fs (.str x::ds) S:=by
 cases d with
 | list xs=>
  match xs,h with
  | .str w::r,h=>cases h; rfl
 | tuple xs=>
  match xs,h with
  | .str w::r,h=>cases h; rfl
 | _=>cases h
theorem gr{ks:List Str}{ts:List ar}{fs:List am}{S:Sco}{d:PyData}(h:cR d=none):bZ ks ts fs d S=false:=by
 cases d with
 | list xs=>
  match xs,h with
  | [],_=>rfl
  | .str w::r,h=>cases h
  | .none::r,h=>rfl
  | .bool _::r,h=>rfl
  | .int _::r,h=>rfl
  | .list _::r,h=>rfl
  | .tuple _::r,h=>rfl
  | .dict _::r,h=>rfl
 | tuple xs=>
  match xs,h with
  | [],_=>rfl
  | .str w::r,h=>cases h
  | .none::r,h=>rfl
  | .bool _::r,h=>rfl
  | .int _::r,h=>rfl
  | .list _::r,h=>rfl
  | .tuple _::r,h=>rfl
  | .dict _::r,h=>rfl
 | _=>rfl
theorem qc{d:PyData}{x:Str}{ds:List PyData}(h:cR d=some (x,ds))(s:dq d=true):ds.length≤100000∧bK ds=true:=by
 cases d with
 | list xs=>
  match xs,h with
  | .str w::r,h=>
   cases h
   simp only [dq,bK,YK,decide_eq_true_eq,Ys] at s
   exact⟨by omega,s.2.2⟩
 | tuple xs=>
  match xs,h with
  | .str w::r,h=>
   cases h
   simp only [dq,bK,YK,decide_eq_true_eq,Ys] at s
   exact⟨by omega,s.2.2⟩
 | _=>cases h
theorem lB:∀ {ds:List PyData} {i:Nat} {d:PyData},bK ds=true→ds[i]? = some d→dq d=true
 | d::ds,0,_,h,e=>by cases e; simp only [bK,YK] at h; exact h.1
 | _::ds,i+1,d,h,e=>by simp only [bK,YK] at h; exact lB (ds:=ds) (i:=i) h.2 e
theorem all_iff{ks:List Str}{ts:List ar}{fs:List am}{S:Sco}:∀ {ds:List PyData},dW ks ts fs ds S=true↔∀ (i:Nat) (d:PyData),ds[i]? = some d→bZ ks ts fs d S=true
 | []=>⟨fun _ i d e=>(by cases e),fun _=>rfl⟩
 | d::ds=>by
  show (bZ ks ts fs d S&&dW ks ts fs ds S)=true↔_
  rw [YK,all_iff (ds:=ds)]
  constructor
  ·rintro⟨h1,h2⟩ i d' e
   cases i with
   | zero=>cases e; exact h1
   | succ i=>exact h2 i d' e
  ·intro h
   exact⟨h 0 d rfl,fun i d' e=>h (i+1) d' e⟩
theorem xz{ks:List Str}{ts:List ar}{fs:List am}{S:Sco}{ds:List PyData}{i:Nat}{d:PyData}(a:ds[i]? = some d)(h:bZ ks ts fs d S=false):dW ks ts fs ds S=false:=by
 cases e:dW ks ts fs ds S with
 | false=>rfl
 | true=>rw [all_iff.mp e i d a] at h; cases h
theorem fZ{c A B R:Prop}[Decidable c](h:R)(f:c→R→A)(g:¬ c→R→B):if c then A else B:=by
 by_cases hc:c
 ·rw [if_pos hc]; exact f hc h
 ·rw [if_neg hc]; exact g hc h
theorem jC{ks:List Str}{ts:List ar}{fs:List am}{S:Sco}{w0:Str}{ds:List PyData}(hw:w0∈(lC9:List Str))(h1:w0="not"→ds.length=1):di ks ts fs (.str w0::ds) S=dW ks ts fs ds S:=by
 simp only [Yr,Y2,or_false] at hw
 rcases hw with rfl | rfl | rfl
 ·show (ds.length==1&&dW ks ts fs ds S)=_
  rw [h1 rfl]; rfl
 ·rfl
 ·rfl
theorem jD{ks:List Str}{ts:List ar}{fs:List am}{S:Sco}{w0:Str}{ds:List PyData}(hw:w0∈(lD2:List Str)):di ks ts fs (.str w0::ds) S=ck ks ts fs ds S:=by
 simp only [Yr,Y2,or_false] at hw
 rcases hw with rfl | rfl
 ·rfl
 ·rfl
theorem lF{ks:List Str}{ts:List ar}{fs:List am}{S:Sco}{w0:Str}{ds:List PyData}(h1:w0≠"=")(h2:¬ w0∈(lC9:List Str))(h3:¬ w0∈(lD2:List Str)):di ks ts fs (.str w0::ds) S=match eX ts w0 with
  | some ps=>br fs S ds ps
  | none=>false:=by
 simp only [Yr,Y2,or_false,not_or] at h2 h3
 simp only [di,if_neg h1,if_neg h2.1,if_neg (show ¬ (w0="and"∨w0="or") from fun z=>z.elim h2.2.1 h2.2.2),if_neg (show ¬ (w0="all"∨w0="some") from fun z=>z.elim h3.1 h3.2)]
 first | done | (cases eX ts w0 <;> rfl)
section
abbrev bc:Stmt:=top 20
theorem zcc:aj ["table","thing","scope","room","word","things"] lA4 (ag bc):=by walk_at "F"
def km(C N:Addr):Nat→Sp
 | 0=>fun _ _ _ _=>False
 | n+1=>spSayE C N n
def iE(C N:Addr):Nat→Sp
 | 0=>fun _ _ _ _=>False
 | n+1=>spBindE C N n
theorem nB{C N:Addr}{m:Nat}{vs:List V}{H:Hp}{Q:VK}{E:XK}(h:spSayE C N m vs H Q E):km C N (m+1) vs H Q E:=h
theorem lA{C N:Addr}{m:Nat}{vs:List V}{H:Hp}{Q:VK}{E:XK}(h:spBindE C N m vs H Q E):iE C N (m+1) vs H Q E:=h
theorem iT{C N:Addr}(F:ah K mg "checked_saying" bc lA4)(Z:Bl mg)(T:ClT K C)(O_NoSaying:cw K mg "NoSaying" N)(D_check_many:aU P w K mg base "check_many" 1 lB8 (spManyE N))(D_word_and_things:aU P w K mg base "word_and_things" 2 lC6 (spWordE N))(n:Nat)
  (D_checked_equation:aU P w K mg base "checked_equation" (2*n+4) lB7 (spEqE C N n)) (D_checked_row:aU P w K mg base "checked_row" (2*n+4) lA5 (spRowE C N n))
  (D_checked_saying:aU P w K mg base "checked_saying" (2*n+3) lA4 (km C N n)) (D_checked_binding:aU P w K mg base "checked_binding" (2*n+4) lA9 (iE C N n)) :
  aU P w K mg base "checked_saying" (2*n+5) lA4 (spSayE C N n):=by
 have SC:=zcc
 refine F.mkE (k:=2*n+4) zcc (fun vs H Q E h=>?_) (fun f cdv A outer s H vs Q E hr h=>?_)
 ·obtain⟨x,sc,v,r,ks,ts,fs,S,bb,d,rfl,_⟩:=h
  rfl
 ·obtain⟨x,sc,v,r,ks,ts,fs,S,bb,d,rfl,hT,ok,hS,hb,hv,hsh,hn,hrr,q,no⟩:=h
  refine'⟨_,?dv,?_⟩
  case dv=>(have:=af 25 58 17 93; have:=af 25 53 21 95; have:=af 17 58 53 75; have:=bG 53 30 95 1 ["part","table","thing","scope","room","word","things"]; have:=af 28 56 7 35; walk_at "S2")
  refine⟨_,rfl,_,rfl,v,d,r,rfl,hv,fun w0 ds r0 hw p la xs H1 e1 e2 m1 s1=>?_,fun hno H' s'=>?_⟩
  rotate_left
  ·rcases hno with z | z
   ·cases hw:cR d with
    | none=>exact no (gr hw) H' s'
    | some y=>have:=eC (x:=y.1) (ds:=y.2) hw; omega
   ·exact no (gr z) H' s'
  have hdp:=eC hw
  have htd:=oS hw
  have hsd:=oU (ks:=ks) (ts:=ts) (fs:=fs) (S:=S) hw
  obtain⟨l50,shs⟩:=qc hw hsh
  obtain⟨m,rfl⟩:∃ m,n=m+1:=⟨n-1,by omega⟩
  obtain⟨r,rfl⟩:∃ r',r=r'+1:=⟨r-1,by omega⟩
  have hp2:∀ f∈fs,f.ps.length≤2:=fun f hf=>(ok.fn f hf).2.1
  refine⟨p,_,rfl,SqT.of e1,rfl,_,_,rfl,_,_,rfl,rfl,?_⟩
  have hT1:=hT.same s1
  have hS1:=hS.same s1
  have rr:(((r+1:Nat):Int) - 1)=(r:Int):=by omega
  have ml:=aP.length m1
  refine⟨_,rfl,rfl,_,rfl,?_⟩
  by_cases hw1:w0="="
  ·refine ifT (decide_eq_true (by rw [hw1])) ?_
   subst hw1
   rw [show di ks ts fs (.str "="::ds) S=eqD fs S ds from rfl] at hsd
   refine⟨_,rfl,_,rfl,_,rfl,_,rfl,_,1,rfl,rfl,x,sc,la,r,ks,ts,fs,S,xs,ds,by rw [← rr]; rfl,hT1,hp2,hS1.at (by omega),e2,m1,by omega,by omega,fun hy u H' tu s'=>q (by rw [hsd,hy]) u H' (by rw [htd]; exact tu) (s1.trans s'),fun hy H' s'=>no (by rw [hsd,hy]) H' (s1.trans s')⟩
  refine ifF (by simp; exact hw1) ?_
  have hbad:w0="not"→ds.length≠1→bZ ks ts fs d S=false:=fun z hl=>by
   subst z
   rw [hsd]
   show (ds.length==1&&dW ks ts fs ds S)=false
   rw [show (ds.length==1)=false from beq_eq_false_iff_ne.mpr hl]
   rfl
  refine⟨_,rfl,rfl,_,rfl,fZ (R:=(w0="not"→ds.length=1)→_) ?rest (fun e h=>⟨_,rfl,la,xs,1,rfl,e2,fun hl=>h (fun _=>by omega),fun hl H' s'=>no (hbad (V.str.inj (of_decide_eq_true e)) (by omega)) H' (s1.trans s')⟩) (fun hne h=>h fun z=>absurd (decide_eq_true (by rw [z])) hne)⟩
  intro hone
  refine⟨_,rfl,uR (ws:=lC9) (by decide) fun tt htt=>⟨_,rfl,?_⟩⟩
  have s12:=ad htt (.tup (List.map V.str lC9))
  have s2:=s1.trans s12
  generalize (upd H1 tt (.tup (List.map V.str lC9)))=H2 at s2 s12
  by_cases hw2:w0∈(lC9:List Str)
  ·refine ifT (decide_eq_true hw2) ?_
   rw [jC hw2 hone] at hsd
   refine⟨_,rfl,by show 1≤sizeLine; decide,fun l1 hl1=>?_⟩
   have s3:=ad hl1 (.lst [.str w0])
   have e3:(upd H2 l1 (.lst [.str w0])) l1=some (.lst [.str w0]):=aa
   generalize (upd H2 l1 (.lst [.str w0]))=H3 at s3 e3
   have s13:=s12.trans s3
   refine⟨_,rfl,la,rfl,⟨_,SqL.of (s13 _ _ e2)⟩,?_⟩
   intro cl C1 ex s0 Hc
   refine bH xs.length (fun i ys H4=>Same H3 H4∧aP H4 ys (cN (ds.take i))∧∀ j d,j<i→ds[j]? = some d→bZ ks ts fs d S=true) (fun i y=>xs[i]? = some y) ⟨Same.refl _,.nil,fun j d z=>by omega⟩ (Yn (show xs.length≤100000 by omega) (by decide))
    (fun i ys H4 hi _ ⟨z,_⟩=>gb (SqL.of (z _ _ (s13 _ _ e2))) hi) (fun ys H4 _ ⟨z,_⟩=>dA (SqL.of (z _ _ (s13 _ _ e2)))) ?_ ?_
   ·rintro i y ys H4 hi hy hyl ⟨s4,t4,h4⟩
    obtain⟨d',hd',hmt⟩:=aP.get m1 hy
    have dt:=cZ hd'
    have s14:=s13.trans s4
    refine⟨_,rfl,_,rfl,_,rfl,_,rfl,_,1,rfl,rfl,?_⟩
    unfold eY
    refine nB ⟨x,sc,y,r,ks,ts,fs,S,bb,d',by rw [← rr]; rfl,hT1.same s14,ok,hS1.same s14,by omega,Rd0.same hmt s14,lB shs hd',by omega,by omega,fun hy2 u H5 tu s5=>⟨s4.trans s5,?_,fun j d2 hj e=>?_⟩,fun hy2 H' s'=>no (by rw [hsd]; exact xz hd' hy2) H' ((s1.trans s14).trans s')⟩
    ·rw [YL,hd',cn,Yz,← cn]
     exact aP.snoc (aP.same t4 s5) tu
    ·by_cases hji:j<i
     ·exact h4 j d2 hji e
     ·obtain rfl:j=i:=by omega
      rw [e] at hd'; cases hd'; exact hy2
   ·rintro ys H4 hyl ⟨s4,t4,h4⟩ D hD
    rw [ml,YQ] at t4
    have s5:=ad hD (.lst ys)
    have hall:dW ks ts fs ds S=true:=all_iff.mpr fun i d2 e=>h4 i d2 (by have:=(Yv.mp e).1; omega) e
    refine⟨l1,D,_,_,rfl,rfl,s5 _ _ (s4 _ _ e3),aa,Yn (show 1+ys.length≤100001 by omega) (by decide),fun L hL=>?_⟩
    refine⟨L,_,rfl,.inl ⟨SqL.of aa,fun tt2 htt2=>?_⟩⟩
    have s6:=ad hL (.lst ([.str w0]++ys))
    have s7:=ad htt2 (.tup ([.str w0]++ys))
    have s47:=s5.trans (s6.trans s7)
    refine q (by rw [hsd,hall]) _ _ ?_ (s1.trans (s13.trans (s4.trans s47)))
    rw [htd]
    exact .tup trivial aa (.cons (.str _) (aP.same t4 s47))
  refine ifF (by rw [decide_eq_false hw2]; exact Yt) ?_
  refine⟨_,rfl,uR (ws:=lD2) (by decide) fun t2 ht2=>⟨_,rfl,?_⟩⟩
  have s3:=s12.trans (ad ht2 (.tup (List.map V.str lD2)))
  generalize (upd H2 t2 (.tup (List.map V.str lD2)))=H3 at s3
  by_cases hw3:w0∈(lD2:List Str)
  ·refine ifT (decide_eq_true hw3) ?_
   rw [jD hw3] at hsd
   refine⟨_,rfl,_,rfl,_,rfl,_,rfl,_,rfl,_,1,rfl,rfl,?_⟩
   unfold eY
   exact lA ⟨x,sc,la,r,ks,ts,fs,S,bb,w0,xs,ds,by rw [← rr]; rfl,hT1.same s3,ok,hS1.same s3,by omega,s3 _ _ e2,aP.same m1 s3,shs,by omega,by omega,fun hy u H' tu s'=>q (by rw [hsd,hy]) u H' (by rw [htd]; exact tu) (s1.trans (s3.trans s')),fun hy H' s'=>no (by rw [hsd,hy]) H' (s1.trans (s3.trans s'))⟩
  refine ifF (by rw [decide_eq_false hw3]; exact Yt) ?_
  rw [lF hw1 hw2 hw3] at hsd
  have hT3:=hT1.same s3
  obtain⟨dx,ka,tb,fb,kb,tp,fp,fk,h1,h2,h3,h4,h5,h6,h7,h8,h9⟩:=id hT3
  have hg:∀ H',Same H3 H'→dX H' tb (.str w0) (aW tp (.inr w0)):=fun H' s=>dX.k (k:=.inr w0) (s _ _ h3)
  cases ht:eX ts w0 with
  | none=>
   rw [ht] at hsd
   have hg1:=hg H3 (Same.refl _)
   rw [h7 w0 ht] at hg1
   exact⟨_,rfl,_,rfl,x,C,dx,_,_,rfl,h1,T.cl,T.n2,u9 _ _ _ _,tb,_,rfl,hg1,_,rfl,ifT rfl ⟨by show 1≤sizeLine; decide,no hsd _ (s1.trans s3)⟩⟩
  | some ps=>
   rw [ht] at hsd
   replace hsd:bZ ks ts fs d S=br fs S ds ps:=hsd
   obtain⟨pl,g1,g2⟩:=h6 w0 ps ht
   rw [g1] at hg
   have pl2:ps.length≤2:=by
    unfold eX at ht
    obtain⟨t,hf,e⟩:=Yx.mp ht
    cases e
    exact(ok.tn t (Xw hf)).2.1
   refine⟨_,rfl,_,rfl,x,C,dx,_,_,rfl,h1,T.cl,T.n2,u9 _ _ _ _,tb,_,rfl,hg H3 (Same.refl _),_,rfl,cX ?_⟩
   refine⟨_,rfl,by show 1≤sizeLine; decide,fun l1 hl1=>?_⟩
   have s4:=ad hl1 (.lst [.str w0])
   have s14:=s3.trans s4
   refine⟨_,rfl,_,rfl,_,rfl,x,C,dx,_,_,rfl,s4 _ _ h1,T.cl,T.n2,u9 _ _ _ _,_,rfl,tb,_,rfl,hg _ s4,_,rfl,_,rfl,_,1,rfl,rfl,x,sc,la,pl,r,ks,ts,fs,S,xs,ds,ps,by rw [← rr]; rfl,hT1.same s14,hp2,(hS1.same s14).at (by omega),s14 _ _ e2,aP.same m1 s14,s4 _ _ g2,pl2,by omega,by omega,fun hrow q' us H4 hq' e3 tu s5=>?_,fun hrow H' s'=>no (by rw [hsd,hrow]) H' (s1.trans (s14.trans s'))⟩
   have usl:=aP.length tu
   rw [cn,Yh] at usl
   refine⟨l1,q',_,_,rfl,rfl,s5 _ _ aa,e3,Yn (show 1+us.length≤100001 by omega) (by decide),fun L hL=>?_⟩
   refine⟨L,_,rfl,.inl ⟨SqL.of aa,fun tt2 htt2=>?_⟩⟩
   have s6:=ad hL (.lst ([.str w0]++us))
   have s7:=ad htt2 (.tup ([.str w0]++us))
   refine q (by rw [hsd,hrow]) _ _ ?_ (s1.trans (s14.trans (s5.trans (s6.trans s7))))
   rw [htd]
   exact .tup trivial aa (.cons (.str _) (aP.same tu (s6.trans s7)))
theorem t9{C N:Addr}(F:ah K mg "checked_saying" bc lA4):aU P w K mg base "checked_saying" 3 lA4 (km C N 0):=
 F.mkE (k:=2) zcc (fun vs H Q E h=>False.elim h) fun f cdv A outer s H vs Q E hr h=>False.elim h
theorem qI{C N:Addr}(F:ah K mg "checked_binding" aX lA9):aU P w K mg base "checked_binding" 4 lA9 (iE C N 0):=
 F.mkE (k:=3) zcb (fun vs H Q E h=>False.elim h) fun f cdv A outer s H vs Q E hr h=>False.elim h
theorem lQ{C N:Addr}(F1:ah K mg "checked_saying" bc lA4)(F2:ah K mg "checked_binding" aX lA9)(F3:ah K mg "checked_equation" bf lB7)
  (Z:Bl mg) (T:ClT K C) (n_dict:mg "dict"=none) (O:cw K mg "NoSaying" N) (D_check_many:aU P w K mg base "check_many" 1 lB8 (spManyE N)) (D_word_and_things:aU P w K mg base "word_and_things" 2 lC6 (spWordE N)) (D_is_name:aU P w K mg base "is_name" 1 lA8 spNameE)
  (tm:∀ n,aU P w K mg base "checked_term" (2*n+3) lA4 (spTmE C N n)∧aU P w K mg base "checked_row" (2*n+4) lA5 (spRowE C N n)) :
  ∀ n,aU P w K mg base "checked_saying" (2*n+5) lA4 (spSayE C N n)
 | 0=>iT F1 Z T O D_check_many D_word_and_things 0 (uq F3 Z O D_check_many 0 (tm 0).1) (tm 0).2 (t9 F1) (qI F2)
 | n+1=>by
  have ih:=lQ F1 F2 F3 Z T n_dict O D_check_many D_word_and_things D_is_name tm n
  exact iT F1 Z T O D_check_many D_word_and_things (n+1) (uq F3 Z O D_check_many (n+1) (tm (n+1)).1) (tm (n+1)).2 ih (ur F2 Z n_dict T O D_check_many D_is_name n (2*n+4) ih)
end
def bS:Nat→Nat
 | 0=>222
 | n+1=>3*bS n+11
theorem oH:∀ n,222≤bS n
 | 0=>Yg _
 | n+1=>by rw [bS]; have:=oH n; omega
theorem lu{ks:List Str}{ts:List ar}{fs:List am}{S:Str→Option Str}{a:Tr}(h:fF ks ts fs S a):∀ {l:List Tr},eV ks ts fs S l→eV ks ts fs S (l++[a])
 | _,.nil=>.cons h .nil
 | _,.cons f r=>.cons f (lu h r)
theorem yD(ws:List Str){r:Int}(h0:0≤r)(h1:r<ws.length):∃ w∈ws,atI (ws.map V.str) r=some (.str w):=by
 have h:r.toNat<ws.length:=by omega
 exact⟨ws[r.toNat],Xd h,aK h0 (by rw [YB]; simp [h])⟩
theorem Am:∀ j,j<6→∃ c:Nat,c≤3∧([V.int 0,V.int 1,V.int 2,V.int 2,V.int 2,V.int 3]:List V)[j]? = some (.int c):=by
 intro j hj
 have : j=0∨j=1∨j=2∨j=3∨j=4∨j=5:=by omega
 rcases this with rfl | rfl | rfl | rfl | rfl | rfl
 ·exact⟨0,by decide,rfl⟩
 ·exact⟨1,by decide,rfl⟩
 ·exact⟨2,by decide,rfl⟩
 ·exact⟨2,by decide,rfl⟩
 ·exact⟨2,by decide,rfl⟩
 ·exact⟨3,by decide,rfl⟩
def varMenu:List Str:=["x","y","z","all","not","r","f"]
theorem eW:∀ k∈varMenu,b6 k:=by unfold b6; decide +kernel
theorem xy:∀ w∈[("all":Str),"all","some"],w="all"∨w="some":=by
 intro w hw
 rcases Yr.mp hw with h | h
 ·exact .inl h
 rcases Yr.mp h with h | h
 ·exact .inl h
 ·exact .inr (Yp.mp h)
section
abbrev bi:Stmt:=top 53
theorem zcd:aj ["_law_pot_here","_law_book_here","_law_scope","_law_deep","_law_way","_law_many","_law_word","_law_name_here","_law_kind"] lA1 (ag bi):=by walk_at "F"
inductive spSin(n:Nat)(vs:List V)(H:Hp)(Q:VK)(e3_:XK):Prop | mk (p b a:Addr) (ps:List (Str×Str)) (ks:List Str) (ts:List ar) (fs:List am) (_:vs=[.ref p,.ref b,.ref a,.int n]) (_:bJ H p) (_:gq H p b ks ts fs) (_:aV ks ts fs) (_:ScL H a ps) (_:ps.length≤3) (_:(∀ q∈ps,b6 q.1)) (_:∀ v H' t,Tup H' v t→fF ks ts fs (bQ ps) t→Fit (3+n) (bS n) t→av p H H'→Q v H')
def kj:Nat→Sp
 | 0=>fun _ _ _ _=>False
 | n+1=>spSin n
theorem jN(F:ah K mg "_law_saying_in" bi lA1)(Z:Bl mg)(D_law_draw:Def P w K mg base "_law_draw" 1 lA6 spDraw)(D_law_atom:Def P w K mg base "_law_atom" 6 lA1 spAtom)(n:Nat)
  (D_law_saying_in:Def P w K mg base "_law_saying_in" (n+6) lA1 (kj n)):Def P w K mg base "_law_saying_in" (n+7) lA1 (spSin n):=by
 have SC:=zcd
 refine F.mk' (k:=n+6) zcd (fun vs H Q E h=>?_) (fun f cdv A outer s H vs Q E hr h=>?_)
 ·obtain⟨p,b,a,ps,ks,ts,fs,rfl,_⟩:=h
  rfl
 ·obtain⟨p,b,a,ps,ks,ts,fs,rfl,hp,hb,ok,hs,hl,hn,q⟩:=h
  refine'⟨_,?dv,?_⟩
  case dv=>(have:=af 11 258 15 160; have:=af 10 261 16 33; have:=af 24 252 67 83; have:=af 25 262 96 138; have:=af 10 261 63 80; have:=bG 258 54 159 1 ["_law_k","_law_pot_here","_law_book_here","_law_scope","_law_deep","_law_way","_law_many","_law_word","_law_name_here","_law_kind"]; have:=af 26 252 67 83; walk_at "S2")
  obtain⟨x0,x1,x2,ep,ha,hb0,hb1⟩:=id hp
  refine⟨_,rfl,p,_,2,.int x2,rfl,rfl,by decide,SqL.of ep,rfl,_,_,rfl,rfl,p,_,2,2,rfl,rfl,ep,rfl,?_⟩
  generalize hHA:upd H p (.lst (List.set [V.int x0,V.int x1,V.int x2] 2 (V.int (x2-1))))=HA
  have wA:av p H HA:=⟨⟨x0,x1,x2-1,by rw [← hHA]; exact aa,ha,hb0,hb1⟩,by rw [← hHA]; exact ax.upd _ _ _⟩
  refine⟨_,rfl,p,12,rfl,wA.pot,by decide,by decide,fun r H1 r0 r1 p1 s1=>?_⟩
  have w1:av p H H1:=wA.mk1 p1 s1
  dsimp only [cG]
  have b1:=RdV.went hb w1.same
  have sc1:∀ {H'},av p H H'→ScL H' a ps:=fun w'=>hs.went hp w'.same
  refine ku (fun σ' H'=>σ'=[some (.ref p),some (.ref b),some (.ref a),some (.int n),some (.int r),none,none,none,none]∧av p H H'∧n≠0) ?_ (fun go=>?_)
  ·rintro σ' H5 ⟨rfl,w5,n0⟩
   obtain⟨m,rfl⟩:∃ m,n=m+1:=⟨n-1,by omega⟩
   have sub:∀ (a':Addr) (ps':List (Str×Str)) (H':Hp) (R:VK),av p H H'→ScL H' a' ps'→ps'.length≤3→(∀ q∈ps',b6 q.1)→(∀ v H'' t,Tup H'' v t→fF ks ts fs (bQ ps') t→Fit (3+m) (bS m) t→av p H' H''→R v H'')→kj (m+1) [.ref p,.ref b,.ref a',.int (((m+1:Nat):Int) - 1)] H' R E0:=fun a' ps' H' R w' s' l' n' k'=>by
    have e:((m+1:Nat):Int) - 1=(m:Int):=by omega
    rw [e]
    exact⟨p,b,a',ps',ks,ts,fs,rfl,w'.pot,RdV.went hb w'.same,ok,s',l',n',k'⟩
   refine⟨_,rfl,rfl,_,rfl,?_⟩
   by_cases r3:r=3
   ·refine ifT (by simp [r3]) ⟨_,rfl,_,rfl,_,rfl,_,rfl,_,_,rfl,rfl,?_⟩
    refine sub a ps H5 _ w5 (sc1 w5) hl hn fun v H6 t tv st ft w6=>⟨(by show 2≤sizeLine; decide),fun L hL=>?_⟩
    refine q _ _ (.node [.leaf "not",t]) (.node aa (.cons (.leaf _) (.cons (dz (Same.tups (ad hL _)) tv) .nil))) (.not st) ?_ ((w5.trans w6).new hL _)
    refine(Fit.node (b7.cons ((Fit.wd _ (by simp)).mono (Yy _) (Yg _)) (b7.cons ft b7.nil))).mono (by omega) ?_
    rw [bS]; omega
   refine ifF (by simp [r3]) ⟨_,rfl,_,_,rfl,rfl,_,rfl,?_⟩
   refine fZ ?body (fun _ h=>ifT rfl h) (fun _ h=>?other)
   case body=>
    refine⟨(by show 6≤sizeLine; decide),fun L hL=>⟨_,rfl,p,6,rfl,w5.pot.keep (ad hL _),by decide,by decide,fun r2 H6 r20 r21 p6 s6=>?_⟩⟩
    obtain⟨c,c3,ec⟩:=Am r2.toNat (by omega)
    have nL:L≠p:=Ne.symm (w5.ne hL)
    refine⟨L,_,r2,.int c,rfl,rfl,SqL.of (s6 _ _ nL aa),aK r20 ec,?_⟩
    have w6:=(w5.new hL (.lst [V.int 0,V.int 1,V.int 2,V.int 2,V.int 2,V.int 3])).mk1 p6 s6
    have conn:∀ wd:Str,wd="and"∨wd="or"→∀ (H7:Hp) (t1:Addr),H7 t1=none→av p H H7→∀ (Qr:VK),(∀ l D2 ys H8,df H8 ys l→eV ks ts fs (bQ ps) l→l.length≤3→(∀ t∈l,Fit (3+m) (bS m) t)→av p (upd H7 t1 (.tup [.str wd])) H8→H8 D2=some (.lst ys)→Qr (.ref D2) H8)→
      xT (iu (tVar 5) eY) [some (.ref p),some (.ref b),some (.ref a),some (.int (m+1:Nat)),some (.int r),some (.int c),none,none,none] (upd H7 t1 (.tup [.str wd])) fun J H1=>∀ (cl:List (Str×Addr)) (C:Addr) (ex:List Addr) (s:Shared) (Hc:Hp),fG 1 J (cG 0) (fM (kj (m+1)) [] E0 (iu (tVar 1) (iu (tVar 2) (iu (tVar 3) (iu (tOp (rI0 fun i j=>V.int (i-j)) (tVar 4) (tC (V.int 1))) eY))))) [some (.ref p),some (.ref b),some (.ref a),some (.int (m+1:Nat)),some (.int r),some (.int c),none,none,none] H1 Qr:=by
     intro wd hwd H7 t1 ht1 w7 Qr kk
     have w8:=w7.new ht1 (.tup [.str wd])
     refine⟨_,rfl,c,rfl,by omega,by omega,fun cl C ex s0 Hc=>?_⟩
     have ec0:(c:Int).toNat=c:=by omega
     refine bH (c:Int).toNat (fun i ys H9=>av p (upd H7 t1 (.tup [.str wd])) H9∧∃ l,df H9 ys l∧eV ks ts fs (bQ ps) l∧l.length=i∧∀ t∈l,Fit (3+m) (bS m) t) (fun _ _=>True) ⟨av.refl w8.pot,[],.nil,.nil,rfl,fun _ z=>nomatch z⟩ (by rw [ec0]; exact Yn c3 (by decide))
      (fun i ys H9 hi _ _=>⟨(uV hi).1,fun x H' y=>⟨((uV hi).2 x H' y).1,trivial⟩⟩) (fun ys H9 _ _=>sm) ?_ ?_
     ·rintro i y ys H9 hi-yl ⟨w9,l,l1,l2,l3,l4⟩
      refine⟨_,rfl,_,rfl,_,rfl,_,rfl,_,_,rfl,rfl,?_⟩
      refine sub a ps H9 _ (w8.trans w9) (sc1 (w8.trans w9)) hl hn fun v H10 t tv st ft w10=>⟨w9.trans w10,l++[t],df.snoc (cp (cE w9.pot w10.same) l1) tv,lu st l2,by rw [Yw,l3]; rfl,fun u hu=>?_⟩
      rcases YN.mp hu with hu | hu
      ·exact l4 u hu
      ·rw [Yp.mp hu]; exact ft
     ·rintro ys H9 yl ⟨w9,l,l1,l2,l3,l4⟩ D2 hD2
      exact kk l D2 ys _ (cp (Same.tups (ad hD2 _)) l1) l2 (by omega) l4 (w9.new hD2 _) aa
    refine⟨(by show 2≤sizeLine; decide),fun L2 hL2=>⟨_,rfl,_,_,rfl,rfl,(by decide:(0:Int)<2),?_⟩⟩
    have w7:=w6.new hL2 (.lst [.str "and",.str "or"])
    have fin:∀ wd:Str,wd="and"∨wd="or"→∀ t1,upd H6 L2 (.lst [.str "and",.str "or"]) t1=none→∀ l D2 ys H8,df H8 ys l→eV ks ts fs (bQ ps) l→l.length≤3→(∀ t∈l,Fit (3+m) (bS m) t)→av p (upd (upd H6 L2 (.lst [.str "and",.str "or"])) t1 (.tup [.str wd])) H8→H8 D2=some (.lst ys)→
      ∀ t2,H8 t2=none→rCatTT K (.ref t1) (.ref t2) (upd H8 t2 (.tup ys)) Q:=by
     intro wd hwd t1 ht1 l D2 ys H8 l1 l2 l3 l4 w8 eD t2 ht2
     have w9:=(w7.new ht1 (.tup [.str wd])).trans w8
     have s2:=ad ht2 (.tup ys)
     have e1:H8 t1=some (.tup [.str wd]):=cE (w7.new ht1 (.tup [.str wd])).pot w8.same _ _ aa
     have yl:ys.length=l.length:=df.length l1
     refine kW (s2 _ _ e1) aa (Yn (show 1+ys.length≤4 by omega) (by decide)) fun pp H9 e9 s9=>?_
     have s8:=s2.trans s9
     refine q _ _ (.node (.leaf wd::l)) (.node e9 (.cons (.leaf _) (cp (Same.tups s8) l1))) (.conn hwd (by omega) l2) ?_ (w9.mk1 (w9.pot.keep s8) s8.x)
     refine(Fit.node (b7.cons ((Fit.wd wd (by rcases hwd with rfl | rfl <;> simp)).mono (Yy _) (Yg _)) (b7.all (n:=3) l4 l3))).mono (by omega) ?_
     rw [bS]; omega
    have hm2:r % 2=0∨r % 2=1:=by omega
    rcases hm2 with hm2 | hm2
    ·refine⟨L2,_,r % 2,.str "and",rfl,rfl,SqL.of aa,by rw [hm2]; rfl,(by show 1≤sizeLine; decide),fun t1 ht1=>?_⟩
     exact conn "and" (.inl rfl) _ t1 ht1 w7 _ fun l D2 ys H8 a1 a2 a3 a4 a5 a6=>⟨D2,ys,rfl,.inl ⟨SqL.of a6,fin "and" (.inl rfl) t1 ht1 l D2 ys H8 a1 a2 a3 a4 a5 a6⟩⟩
    ·refine⟨L2,_,r % 2,.str "or",rfl,rfl,SqL.of aa,by rw [hm2]; rfl,(by show 1≤sizeLine; decide),fun t1 ht1=>?_⟩
     exact conn "or" (.inr rfl) _ t1 ht1 w7 _ fun l D2 ys H8 a1 a2 a3 a4 a5 a6=>⟨D2,ys,rfl,.inl ⟨SqL.of a6,fin "or" (.inr rfl) t1 ht1 l D2 ys H8 a1 a2 a3 a4 a5 a6⟩⟩
   case other=>
    obtain⟨bs,ea,pa⟩:=(sc1 w5).ex
    have bl:(bs.map V.ref).length=ps.length:=by rw [Yh,Paired.length pa]
    refine⟨_,rfl,a,_,rfl,.inl (SqL.of ea),rfl,_,rfl,?_⟩
    by_cases p3:ps.length=3
    ·exact ifT (by rw [bl,p3]; rfl) h
    refine ifF (by rw [bl]; simp; omega) ?_
    refine⟨(by show 3≤sizeLine; decide),fun L hL=>⟨_,rfl,p,3,rfl,w5.pot.keep (ad hL _),by decide,by decide,fun r2 H6 r20 r21 p6 s6=>?_⟩⟩
    have nL:L≠p:=Ne.symm (w5.ne hL)
    obtain⟨wd,hwd,ewd⟩:=yD ["all","all","some"] r20 r21
    refine⟨L,_,r2,.str wd,rfl,rfl,SqL.of (s6 _ _ nL aa),ewd,?_⟩
    have w6:=(w5.new hL (.lst ([("all":Str),"all","some"].map V.str))).mk1 p6 s6
    refine⟨(by show 7≤sizeLine; decide),fun L2 hL2=>⟨_,rfl,p,7,rfl,w6.pot.keep (ad hL2 _),by decide,by decide,fun r4 H7 r40 r41 p7 s7=>?_⟩⟩
    have nL2:L2≠p:=Ne.symm (w6.ne hL2)
    obtain⟨nm,hnm,enm⟩:=yD varMenu r40 r41
    refine⟨L2,_,r4,.str nm,rfl,rfl,SqL.of (s7 _ _ nL2 aa),enm,?_⟩
    have w7:=(w6.new hL2 (.lst (varMenu.map V.str))).mk1 p7 s7
    obtain⟨kB,tB,fB,tv',fv',eb1,nk1,ek1,_⟩:=gq.open (RdV.went hb w7.same)
    have ok4:=ok.k4
    have ok1:=ok.k1
    refine⟨_,rfl,b,_,0,.ref kB,rfl,rfl,SqT.of eb1,rfl,_,rfl,_,rfl,b,_,0,.ref kB,rfl,rfl,SqT.of eb1,rfl,kB,_,rfl,.inl (SqL.of ek1),?_⟩
    rw [Yh]
    refine⟨p,_,rfl,p7,by omega,by omega,fun r5 H8 r50 r51 p8 s8=>?_⟩
    obtain⟨kd,hkd,ekd⟩:=yD ks r50 r51
    refine⟨kB,_,r5,.str kd,rfl,rfl,SqL.of (s8 _ _ nk1 ek1),ekd,?_⟩
    have w8:=w7.mk1 p8 s8
    refine⟨_,rfl,_,rfl,_,rfl,_,rfl,_,rfl,_,rfl,_,rfl,_,rfl,(by show 2≤sizeLine; decide),fun tp htp=>⟨(by show 1≤sizeLine; decide),fun L3 hL3=>?_⟩⟩
    have w9:=(w8.new htp (.tup [.str nm,.str kd])).new hL3 (.lst [.ref tp])
    obtain⟨bs,ea,pa⟩:=(sc1 w9).ex
    have bl2:(bs.map V.ref).length=ps.length:=by rw [Yh,Paired.length pa]
    refine⟨a,L3,_,_,rfl,rfl,ea,aa,Yn (show (bs.map V.ref).length+1≤4 by omega) (by decide),fun L4 hL4=>⟨_,rfl,_,_,rfl,rfl,?_⟩⟩
    have w10:=w9.new hL4 (.lst (bs.map V.ref++[.ref tp]))
    refine sub L4 (ps++[(nm,kd)]) _ _ w10 ⟨bs++[tp],by rw [Yz]; exact aa,?_⟩ (by rw [Yw,YZ]; omega) (fun z hz=>?_) fun v H11 t tv st ft w11=>⟨(by show 4≤sizeLine; decide),fun L5 hL5=>?_⟩
    ·exact dk (x:=tp) (y:=(nm,kd)) (F:=fun b (q:Str×Str)=>upd (upd (upd H8 tp (.tup [.str nm,.str kd])) L3 (.lst [.ref tp])) L4 (.lst (bs.map V.ref++[.ref tp])) b=some (.tup [.str q.1,.str q.2])) ((ad hL4 _) _ _ ((ad hL3 _) _ _ aa)) (Paired.mapP pa fun b q z=>(ad hL4 _) _ _ z)
    ·rcases YN.mp hz with hz | hz
     ·exact hn z hz
     ·rw [Yp.mp hz]; exact eW nm hnm
    ·rw [nZ] at st
     have hw:=xy wd hwd
     refine q _ _ (.node [.leaf wd,.leaf nm,.leaf kd,t]) (.node aa (.cons (.leaf _) (.cons (.leaf _) (.cons (.leaf _) (.cons (dz (Same.tups (ad hL5 _)) tv) .nil))))) (.bind hw (eW nm hnm) hkd st) ?_ ((w10.trans w11).new hL5 _)
     refine(Fit.node (b7.cons ((Fit.wd wd (by rcases hw with rfl | rfl <;> simp)).mono (Yy _) (Yg _)) (b7.cons ((Fit.nm (eW nm hnm)).mono (Yy _) (Yg _)) (b7.cons ((Fit.nm (ok.kn2 kd hkd)).mono (Yy _) (Yg _)) (b7.cons ft b7.nil))))).mono (by omega) ?_
     have:=oH m
     rw [bS]; omega
  ·have atomS:∀ H',av p H H'→spAtom [.ref p,.ref b,.ref a,.int 2] H' Q E0:=fun H' w'=>⟨p,b,a,ps,ks,ts,fs,rfl,w'.pot,RdV.went hb w'.same,ok,sc1 w',hl,hn,fun v H'' t tv st ft w''=>q _ _ t tv st (ft.mono (by omega) (oH n)) (w'.trans w'')⟩
   refine⟨_,rfl,rfl,_,rfl,?_⟩
   by_cases n0:n=0
   ·exact ifT (by simp [n0]) (ifT rfl ⟨_,rfl,_,rfl,_,rfl,atomS _ w1⟩)
   refine ifF (by simp; omega) ?_
   obtain⟨c0,c1,c2,ec,hc0,hc1,hc2⟩:=id w1.pot
   refine⟨_,rfl,p,_,2,.int c2,rfl,rfl,SqL.of ec,rfl,_,_,rfl,rfl,_,rfl,?_⟩
   by_cases c8:c2<8
   ·exact ifT (by simpa using c8) (ifT rfl ⟨_,rfl,_,rfl,_,rfl,atomS _ w1⟩)
   refine ifF (by simpa using c8) ⟨_,rfl,_,_,rfl,rfl,_,rfl,?_⟩
   by_cases r3:r<3
   ·obtain⟨bs,ea,pa⟩:=(sc1 w1).ex
    refine ifT (by simpa using r3) ⟨_,rfl,Yy _,fun l hl'=>⟨a,l,bs.map V.ref,rfl,rfl,SqL.of (by rw [ac (ae ea hl')]; exact ea),SqL.of aa,_,rfl,?_⟩⟩
    by_cases bn:(!(bs.map V.ref).isEmpty)=true
    ·exact ifT bn ⟨_,rfl,_,rfl,_,rfl,atomS _ (w1.new hl' _)⟩
    ·exact ifF bn (go _ _ ⟨rfl,w1.new hl' _,n0⟩)
   ·exact ifF (by simpa using r3) (ifF (by simp) (go _ _ ⟨rfl,w1,n0⟩))
theorem wK(F:ah K mg "_law_saying_in" bi lA1):Def P w K mg base "_law_saying_in" 6 lA1 (kj 0):=
 F.mk' (k:=5) zcd (fun vs H Q E h=>False.elim h) fun f cdv A outer s H vs Q E hr h=>False.elim h
theorem t8(F:ah K mg "_law_saying_in" bi lA1)(Z:Bl mg)(D_law_draw:Def P w K mg base "_law_draw" 1 lA6 spDraw)(D_law_atom:Def P w K mg base "_law_atom" 6 lA1 spAtom):∀ n,Def P w K mg base "_law_saying_in" (n+7) lA1 (spSin n)
 | 0=>jN F Z D_law_draw D_law_atom 0 (wK F)
 | n+1=>jN F Z D_law_draw D_law_atom (n+1) (t8 F Z D_law_draw D_law_atom n)
end
section
abbrev dN:Stmt:=top 54
theorem zce:aj lB0 lB0 (ag dN):=by walk_at "F"
inductive spSaying(vs:List V)(H:Hp)(Q:VK)(e3_:XK):Prop | mk (p b:Addr) (ks:List Str) (ts:List ar) (fs:List am) (_:vs=[.ref p,.ref b,.int 4]) (_:bJ H p) (_:gq H p b ks ts fs) (_:aV ks ts fs) (_:∀ v H' t,Tup H' v t→fF ks ts fs (fun _=>none) t→Fit 7 20000 t→av p H H'→Q v H')
theorem qG(F:ah K mg "_law_saying" dN lB0)(Z:Bl mg)(D_law_saying_in:Def P w K mg base "_law_saying_in" (4+7) lA1 (spSin 4)):Def P w K mg base "_law_saying" 12 lB0 spSaying:=by
 have SC:=zce
 refine F.mk' (k:=11) zce (fun vs H Q E h=>?_) (fun f cdv A outer s H vs Q E hr h=>?_)
 ·obtain⟨p,b,ks,ts,fs,rfl,_⟩:=h
  rfl
 ·obtain⟨p,b,ks,ts,fs,rfl,hp,hb,ok,q⟩:=h
  refine'⟨_,?dv,?_⟩
  case dv=>(walk_at "S2")
  obtain⟨x0,x1,x2,ep,ha,hb0,hb1⟩:=id hp
  refine⟨_,rfl,p,_,2,2,rfl,rfl,ep,rfl,?_⟩
  generalize hHA:upd H p (.lst (List.set [V.int x0,V.int x1,V.int x2] 2 (V.int 40)))=HA
  have wA:av p H HA:=⟨⟨x0,x1,40,by rw [← hHA]; exact aa,ha,hb0,hb1⟩,by rw [← hHA]; exact ax.upd _ _ _⟩
  refine⟨_,rfl,_,rfl,Yy _,fun L hL=>⟨_,rfl,?_⟩⟩
  have w1:=wA.new hL (.lst [])
  exact⟨p,b,L,[],ks,ts,fs,rfl,w1.pot,RdV.went hb w1.same,ok,⟨[],aa,.nil⟩,Yy _,(fun _ z=>nomatch z),fun v H' t tv st ft w'=>q v H' t tv st (ft.mono (by decide) (by decide)) (w1.trans w')⟩
end
theorem uw{kt tt ft:Addr}:(flF kt tt ft).lookup ("kinds":Str)=none:=u6 (by decide +kernel) (by decide +kernel) (by decide +kernel)
theorem wX{kt tt ft:Addr}:(flF kt tt ft).lookup ("ties":Str)=none:=u6 (by decide +kernel) (by decide +kernel) (by decide +kernel)
theorem fY{kt tt ft:Addr}:(flF kt tt ft).lookup ("functions":Str)=none:=u6 (by decide +kernel) (by decide +kernel) (by decide +kernel)
theorem aR.same{C:Addr}{H H':Hp}{x:Addr}{ks:List Str}{ts:List ar}{fs:List am}(h:aR C H x ks ts fs)(s:Same H H'):aR C H' x ks ts fs:=h.keep (fun o e=>s x o e) (Same.tups s)
theorem pI{α β:Type}{f:α→β}:∀ {l:List α},(l.map f).Nodup→∀ {x y:α},x∈l→y∈l→f x=f y→x=y
 | [],_,_,_,h,_,_=>nomatch h
 | a::r,n,x,y,hx,hy,e=>by
  rw [YA,YH] at n
  rcases Yr.mp hx with ex | ux <;> rcases Yr.mp hy with ey | uy
  ·rw [ex,ey]
  ·rw [ex] at e
   exact absurd (Y7.mpr ⟨y,uy,e.symm⟩) n.1
  ·rw [ey] at e
   exact absurd (Y7.mpr ⟨x,ux,e⟩) n.1
  ·exact pI n.2 ux uy e
theorem vT{α:Type}{nm:α→Str}{G:α→V→Prop}{l:List α}{i:Nat}{t:α}{kvs:List (Key×V)}{v:V}(nd:(l.map nm).Nodup)(ht:l[i]? = some t)(h:∀ u∈l.take i,∃ y,aW kvs (.inr (nm u))=some y∧G u y)(g:G t v):
  ∀ u∈l.take (i+1),∃ y,aW (cr kvs (.inr (nm t)) v) (.inr (nm u))=some y∧G u y:=fun u hu=>by
 rw [d6]
 by_cases e:nm u=nm t
 ·have : u=t:=pI nd (Y1 hu) (YD ht) e
  subst this
  exact⟨v,by rw [if_pos rfl],g⟩
 ·rw [if_neg (fun z=>e (Sum.inr.inj z))]
  rw [YL,ht] at hu
  rcases YN.mp hu with hu | hu
  ·exact h u hu
  ·have : u=t:=(Option.some.inj (Option.mem_toList.mp hu)).symm
   exact absurd (by rw [this]) e
theorem qk{α:Type}{nm:α→Str}{l:List α}{i:Nat}{t:α}{kvs:List (Key×V)}{v:V}(ht:l[i]? = some t)(h:∀ z:Str,(∀ u∈l.take i,nm u≠z)→aW kvs (.inr z)=none):
  ∀ z:Str,(∀ u∈l.take (i+1),nm u≠z)→aW (cr kvs (.inr (nm t)) v) (.inr z)=none:=fun z hz=>by
 rw [YL,ht] at hz
 rw [d6,if_neg (fun e=>hz t (by simp) (Sum.inr.inj e).symm)]
 exact h z fun u hu=>hz u (YT _ hu)
theorem oA{α:Type}{n:Nat}{K:XC}{σ:St}{H:Hp}{l:Addr}{tv:List V}{as:List α}{nm:α→Str}{G:α→V→Prop}{g:TG}{tk te:TE}{Q:VK}(hl:H l=some (.lst tv))(tl:tv.length=as.length)(nd:(as.map nm).Nodup)(h8:as.length≤8)
  (hs:∀ (C:St→V→V→Hp→Prop) (i:Nat) (y:V) (a:α) (vs:List (Option V)),vs.length=n→tv[i]? = some y→as[i]? = some a→(∀ vs' v,List.length vs'=n→G a v→C (vs'++σ) (.str (nm a)) v H)→g y (vs++σ) H fun σ2 H2=>tk σ2 H2 fun k H3=>te σ2 H3 fun v H4=>C σ2 k v H4)
  (hQ:∀ D kvs,H D=none→(∀ t∈as,∃ y,aW kvs (.inr (nm t))=some y∧G t y)→(∀ z:Str,(∀ t∈as,nm t≠z)→aW kvs (.inr z)=none)→Q (.ref D) (upd H D (.dK kvs))):ij n (Itl K l) g tk te σ H Q:=by
 refine oz (a:=l) (xs:=tv) (Yn (show tv.length≤8 by omega) (by decide)) (fun i kvs H2=>H2=H∧kvs.length≤i∧(∀ t∈as.take i,∃ y,aW kvs (.inr (nm t))=some y∧G t y)∧∀ z:Str,(∀ t∈as.take i,nm t≠z)→aW kvs (.inr z)=none) ⟨rfl,Yg _,(fun _ z=>nomatch z),fun _ _=>rfl⟩ (fun i kvs H2 _ ⟨e,n,_⟩=>⟨by rw [e]; exact SqL.of hl,n⟩) ?_ ?_
 ·rintro R i y kvs H2 vs hv hy ⟨rfl,hn,hk,hz⟩ fin
  obtain⟨a,ha⟩:∃ a,as[i]? = some a:=⟨as[i]'(by have:=(Yv.mp hy).1; omega),Xg _⟩
  exact hs (fun σ2 y v H4=>∃ k,y=kV k∧R σ2 H4 (cr kvs k v)) i y a vs hv hy ha fun vs' v hv' g=>⟨.inr (nm a),rfl,fin vs' _ _ hv' ⟨rfl,Yn (bE _ _ _) (by omega),vT (nm:=nm) (G:=G) nd ha hk g,qk ha hz⟩⟩
 ·rintro kvs H2 ⟨rfl,_,hk,hz⟩ D hD
  rw [tl,YQ] at hk hz
  exact hQ D kvs hD hk hz
theorem xZ{vs:List (Option V)}(h:vs.length=2):∃ v0 v1,vs=[v0,v1]:=by
 match vs,h with
 | [a,b],_=>exact⟨a,b,rfl⟩
theorem ls{vs:List (Option V)}(h:vs.length=3):∃ v0 v1 v2,vs=[v0,v1,v2]:=by
 match vs,h with
 | [a,b,c],_=>exact⟨a,b,c,rfl⟩
theorem ya{H:Hp}{tv:List V}{ts:List ar}{i:Nat}{y:V}{t:ar}(rt:RdA Any H tv (ts.map eO))(hy:tv[i]? = some y)(ht:ts[i]? = some t):∃ py pp,y=.ref py∧H py=some (.tup [.str t.nm,.ref pp])∧H pp=some (.tup (t.ps.map V.str)):=by
 obtain⟨d,hd,rd⟩:=rt.getV hy
 rw [YB,ht] at hd
 cases hd
 obtain⟨py,px,rfl,_,hpy,hpx⟩:=RdV.tuple_inv rd
 obtain⟨a1,a2,rfl,r1,r2⟩:=hpx.two
 obtain rfl:=r1.str_inv
 obtain⟨pp,ppx,rfl,_,hpp,hps⟩:=r2.tuple_inv
 obtain rfl:=hps.strs_inv
 exact⟨py,pp,rfl,hpy,hpp⟩
theorem uY{H:Hp}{tv:List V}{ts:List am}{i:Nat}{y:V}{t:am}(rt:RdA Any H tv (ts.map fq))(hy:tv[i]? = some y)(ht:ts[i]? = some t):∃ py pp,y=.ref py∧H py=some (.tup [.str t.nm,.ref pp,.str t.kd])∧H pp=some (.tup (t.ps.map V.str)):=by
 obtain⟨d,hd,rd⟩:=rt.getV hy
 rw [YB,ht] at hd
 cases hd
 obtain⟨py,px,rfl,_,hpy,hpx⟩:=RdV.tuple_inv rd
 obtain⟨a1,a2,a3,rfl,r1,r2,r3⟩:=hpx.three
 obtain rfl:=r1.str_inv
 obtain rfl:=r3.str_inv
 obtain⟨pp,ppx,rfl,_,hpp,hps⟩:=r2.tuple_inv
 obtain rfl:=hps.strs_inv
 exact⟨py,pp,rfl,hpy,hpp⟩
theorem jx{ts:List ar}{z:Str}{ps:List Str}(h:eX ts z=some ps):∃ t∈ts,t.nm=z∧t.ps=ps:=by
 unfold eX at h
 obtain⟨t,ht,e⟩:=Yx.mp h
 exact⟨t,Xw ht,by simpa using List.find?_some ht,e⟩
theorem qj{ts:List ar}{z:Str}(h:eX ts z=none):∀ t∈ts,t.nm≠z:=fun t ht e=>by
 unfold eX at h
 rw [Option.map_eq_none_iff,List.find?_eq_none] at h
 exact h t ht (by simpa using e)
theorem jV{ts:List am}{z k:Str}{ps:List Str}(h:gc ts z=some (ps,k)):∃ t∈ts,t.nm=z∧t.ps=ps∧t.kd=k:=by
 unfold gc at h
 obtain⟨t,ht,e⟩:=Yx.mp h
 cases e
 exact⟨t,Xw ht,by simpa using List.find?_some ht,rfl,rfl⟩
theorem qV{ts:List am}{z:Str}(h:gc ts z=none):∀ t∈ts,t.nm≠z:=fun t ht e=>by
 unfold gc at h
 rw [Option.map_eq_none_iff,List.find?_eq_none] at h
 exact h t ht (by simpa using e)
theorem xm(a:Addr):(fa1 a).length<1000:=YI (aL _ _ _) (by decide)
theorem xk(a b:Addr):(fa2 a b).length<1000:=by
 have h1:=aL (Str.ofString "known_kinds") (.ref a) []
 have h2:=aL (Str.ofString "tie_places") (.ref b) (fa1 a)
 show (aT (Str.ofString "tie_places") (.ref b) (fa1 a)).length<1000
 have h3:(fa1 a).length≤1:=h1
 omega
theorem xj(a b c:Addr):(fa3 a b c).length<1000:=by
 have h1:(fa1 a).length≤1:=aL (Str.ofString "known_kinds") (.ref a) []
 have h2:(fa2 a b).length≤(fa1 a).length+1:=aL (Str.ofString "tie_places") (.ref b) (fa1 a)
 have h3:(fa3 a b c).length≤(fa2 a b).length+1:=aL (Str.ofString "function_places") (.ref c) (fa2 a b)
 omega
section
abbrev bM:Stmt:=f9 (top 18) 0
theorem zcf:aj lD3 lD3 (ag bM):=by walk_at "F"
inductive spTabInit(C CT:Addr)(vs:List V)(H:Hp)(Q:VK)(e3_:XK):Prop | mk (x dx g:Addr) (ks:List Str) (ts:List ar) (fs:List am) (_:vs=[.ref x,.ref g]) (_:H x=some (.ins CT dx [])) (_:aR C H g ks ts fs) (_:aV ks ts fs) (_:∀ H',lg CT H' x ks ts fs→ax x H H'→Q .non H')
theorem nV{f C CT f1 f2 f3:Addr}{fd fd1 fd2 fd3:FuncData}(F:Fun K "__init__" "SignTable.__init__" bM f fd)(Z:Bl mg)(T:ClS K C)(TT:ClT K CT)
  (m_kinds:vE K C "kinds" f1) (G_kinds:cK P w K mg base CX0 1 f1 fd1 lC3 (spTellK C)) (b_kinds:cg K fd1 lC3 [])
  (m_ties:vE K C "ties" f2) (G_ties:cK P w K mg base CX0 1 f2 fd2 lC3 (spTellT C)) (b_ties:cg K fd2 lC3 [])
  (m_functions:vE K C "functions" f3) (G_functions:cK P w K mg base CX0 1 f3 fd3 lC3 (spTellF C)) (b_functions:cg K fd3 lC3 []) :
  cK P w K mg base CX0 2 f fd lD3 (spTabInit C CT):=by
 have SC:=zcf
 refine F.ok zcf (fun vs H Q E h=>?_) (fun cdv A outer s H vs Q E hr h=>?_)
 ·obtain⟨x,dx,g,ks,ts,fs,rfl,_⟩:=h
  rfl
 ·obtain⟨x,dx,g,ks,ts,fs,rfl,hx,hS,ok,q⟩:=h
  refine'⟨_,?dv,?_⟩
  case dv=>(have:=bG 41 26 73 2 ["name","places","self","signs"]; have:=bG 42 31 89 3 lD5; have:=bG 43 30 86 3 lD5; walk_at "S2")
  obtain⟨dg,_,_,_,_,_,g2,_⟩:=id hS
  have gx:g≠x:=by rintro rfl; rw [hx] at g2; cases g2
  have sl:=ok.sl
  have nd:=List.nodup_append.mp ok.sn
  have tx:∀ {G:Hp} {c:Addr} {o:HO},G x=some (.ins CT dx [])∨(∃ fl,G x=some (.ins CT dx fl))→gp G (upd G x o):=fun {G c o} h p xs e=>by
   rw [ac (fun z=>by rcases h with h | ⟨fl,h⟩ <;> (rw [z,h] at e; cases e))]; exact e
  refine⟨_,rfl,g,dg,_,rfl,g2,uw,g,ks,ts,fs,rfl,hS,fun a ha=>?_⟩
  have s1:=ad ha (.lst (ks.map V.str))
  refine⟨_,rfl,x,CT,dx,_,rfl,s1 _ _ hx,TT.cl,TT.n1,by decide,?_⟩
  have nax:a≠x:=by rintro rfl; rw [hx] at ha; cases ha
  have S1:ax x H (upd (upd H a (.lst (ks.map V.str))) x (.ins CT dx (aT "known_kinds" (.ref a) []))):=s1.x.trans (ax.upd _ _ _)
  have a1:(upd (upd H a (.lst (ks.map V.str))) x (.ins CT dx (aT "known_kinds" (.ref a) []))) a=some (.lst (ks.map V.str)):=by rw [ac nax]; exact aa
  have x1:(upd (upd H a (.lst (ks.map V.str))) x (.ins CT dx (aT "known_kinds" (.ref a) []))) x=some (.ins CT dx (fa1 a)):=aa
  have gS1:aR C (upd (upd H a (.lst (ks.map V.str))) x (.ins CT dx (aT "known_kinds" (.ref a) []))) g ks ts fs:=(hS.same s1).keep (fun o e=>ax.upd x _ _ g o gx e) (tx (c:=a) (.inl (s1 _ _ hx)))
  generalize (upd (upd H a (.lst (ks.map V.str))) x (.ins CT dx (aT "known_kinds" (.ref a) [])))=H1 at S1 a1 x1 gS1
  obtain⟨dg1,_,_,_,_,_,g21,_⟩:=id gS1
  refine⟨_,rfl,g,dg1,_,rfl,g21,wX,g,ks,ts,fs,rfl,gS1,fun l tv hl rt=>⟨l,rfl,⟨_,SqL.of aa⟩,?_⟩⟩
  intro cl C1 ex s0 Hc
  refine oA (K:=K) (nm:=ar.nm) (as:=ts) (G:=fun t y=>∃ q,y=.ref q∧(upd H1 l (.lst tv)) q=some (.tup (t.ps.map V.str))) aa (by rw [rt.length,Yh]) nd.1 (by omega) (fun C i y a vs hv hy ha fin=>?_) fun b tp hb hk hkn=>?_
  ·obtain⟨v0,v1,rfl⟩:=xZ hv
   obtain⟨py,pp,rfl,h1,h2⟩:=ya (rt.same (ad hl _)) hy ha
   exact⟨py,_,rfl,SqT.of h1,rfl,_,_,rfl,_,_,rfl,rfl,_,rfl,_,rfl,fin [some (.str a.nm),some (.ref pp)] _ rfl ⟨pp,rfl,h2⟩⟩
  have s2:=(ad hl (.lst tv)).trans (ad hb (.dK tp))
  have b2:(upd (upd H1 l (.lst tv)) b (.dK tp)) b=some (.dK tp):=aa
  have hk2:∀ t∈ts,∃ q,aW tp (.inr t.nm)=some (.ref q)∧(upd (upd H1 l (.lst tv)) b (.dK tp)) q=some (.tup (t.ps.map V.str)):=fun t ht=>by
   obtain⟨y,e1,q',rfl,e2⟩:=hk t ht
   exact⟨q',e1,ad hb _ _ _ e2⟩
  generalize (upd (upd H1 l (.lst tv)) b (.dK tp))=G2 at s2 b2 hk2
  refine⟨_,rfl,x,CT,dx,_,rfl,s2 _ _ x1,TT.cl,TT.n2,xm _,?_⟩
  have nbx:b≠x:=by rintro rfl; rw [s2 _ _ x1] at b2; cases b2
  have T2:gp G2 (upd G2 x (.ins CT dx (aT "tie_places" (.ref b) (fa1 a)))):=tx (c:=a) (.inr ⟨_,s2 _ _ x1⟩)
  have S2:ax x H1 (upd G2 x (.ins CT dx (aT "tie_places" (.ref b) (fa1 a)))):=s2.x.trans (ax.upd _ _ _)
  have x2:(upd G2 x (.ins CT dx (aT "tie_places" (.ref b) (fa1 a)))) x=some (.ins CT dx (fa2 a b)):=aa
  have b2':(upd G2 x (.ins CT dx (aT "tie_places" (.ref b) (fa1 a)))) b=some (.dK tp):=by rw [ac nbx]; exact b2
  have gS2:aR C (upd G2 x (.ins CT dx (aT "tie_places" (.ref b) (fa1 a)))) g ks ts fs:=(gS1.same s2).keep (fun o e=>ax.upd x _ _ g o gx e) T2
  generalize (upd G2 x (.ins CT dx (aT "tie_places" (.ref b) (fa1 a))))=H2 at T2 S2 x2 b2' gS2
  obtain⟨dg2,_,_,_,_,_,g22,_⟩:=id gS2
  refine⟨_,rfl,g,dg2,_,rfl,g22,fY,g,ks,ts,fs,rfl,gS2,fun l3 fv hl3 rf=>⟨l3,rfl,⟨_,SqL.of aa⟩,?_⟩⟩
  intro cl C1 ex s0 Hc
  refine oA (K:=K) (nm:=am.nm) (as:=fs) (G:=fun t y=>∃ q,y=.ref q∧(upd H2 l3 (.lst fv)) q=some (.tup (t.ps.map V.str))) aa (by rw [rf.length,Yh]) nd.2.1 (by omega) (fun C i y a vs hv hy ha fin=>?_) fun c fp hc hk3 hfn=>?_
  ·obtain⟨v0,v1,v2,rfl⟩:=ls hv
   obtain⟨py,pp,rfl,h1,h2⟩:=uY (rf.same (ad hl3 _)) hy ha
   exact⟨py,_,rfl,SqT.of h1,rfl,_,_,rfl,_,_,rfl,_,_,rfl,rfl,_,rfl,_,rfl,fin [some (.str a.nm),some (.ref pp),some (.str a.kd)] _ rfl ⟨pp,rfl,h2⟩⟩
  have s3:=(ad hl3 (.lst fv)).trans (ad hc (.dK fp))
  have c3:(upd (upd H2 l3 (.lst fv)) c (.dK fp)) c=some (.dK fp):=aa
  have hk3':∀ t∈fs,∃ q,aW fp (.inr t.nm)=some (.ref q)∧(upd (upd H2 l3 (.lst fv)) c (.dK fp)) q=some (.tup (t.ps.map V.str)):=fun t ht=>by
   obtain⟨y,e1,q',rfl,e2⟩:=hk3 t ht
   exact⟨q',e1,ad hc _ _ _ e2⟩
  generalize (upd (upd H2 l3 (.lst fv)) c (.dK fp))=G3 at s3 c3 hk3'
  refine⟨_,rfl,x,CT,dx,_,rfl,s3 _ _ x2,TT.cl,TT.n3,xk _ _,?_⟩
  have ncx:c≠x:=by rintro rfl; rw [s3 _ _ x2] at c3; cases c3
  have T3:gp G3 (upd G3 x (.ins CT dx (aT "function_places" (.ref c) (fa2 a b)))):=tx (c:=a) (.inr ⟨_,s3 _ _ x2⟩)
  have S3:ax x H2 (upd G3 x (.ins CT dx (aT "function_places" (.ref c) (fa2 a b)))):=s3.x.trans (ax.upd _ _ _)
  have x3:(upd G3 x (.ins CT dx (aT "function_places" (.ref c) (fa2 a b)))) x=some (.ins CT dx (fa3 a b c)):=aa
  have c3':(upd G3 x (.ins CT dx (aT "function_places" (.ref c) (fa2 a b)))) c=some (.dK fp):=by rw [ac ncx]; exact c3
  have gS3:aR C (upd G3 x (.ins CT dx (aT "function_places" (.ref c) (fa2 a b)))) g ks ts fs:=(gS2.same s3).keep (fun o e=>ax.upd x _ _ g o gx e) T3
  generalize (upd G3 x (.ins CT dx (aT "function_places" (.ref c) (fa2 a b))))=H3 at T3 S3 x3 c3' gS3
  obtain⟨dg3,_,_,_,_,_,g23,_⟩:=id gS3
  refine⟨_,rfl,g,dg3,_,rfl,g23,fY,g,ks,ts,fs,rfl,gS3,fun l4 fv4 hl4 rf4=>⟨l4,rfl,⟨_,SqL.of aa⟩,?_⟩⟩
  intro cl C1 ex s0 Hc
  refine oA (K:=K) (nm:=am.nm) (as:=fs) (G:=fun t y=>y=.str t.kd) aa (by rw [rf4.length,Yh]) nd.2.1 (by omega) (fun C i y a vs hv hy ha fin=>?_) fun d fk hd hk4 _=>?_
  ·obtain⟨v0,v1,v2,rfl⟩:=ls hv
   obtain⟨py,pp,rfl,h1,h2⟩:=uY (rf4.same (ad hl4 _)) hy ha
   exact⟨py,_,rfl,SqT.of h1,rfl,_,_,rfl,_,_,rfl,_,_,rfl,rfl,_,rfl,_,rfl,fin [some (.str a.nm),some (.ref pp),some (.str a.kd)] _ rfl rfl⟩
  have s4:=(ad hl4 (.lst fv4)).trans (ad hd (.dK fk))
  have d4:(upd (upd H3 l4 (.lst fv4)) d (.dK fk)) d=some (.dK fk):=aa
  generalize (upd (upd H3 l4 (.lst fv4)) d (.dK fk))=G4 at s4 d4
  refine⟨_,rfl,x,CT,dx,_,rfl,s4 _ _ x3,TT.cl,TT.n4,xj _ _ _,?_⟩
  have ndx:d≠x:=by rintro rfl; rw [s4 _ _ x3] at d4; cases d4
  have T4:gp G4 (upd G4 x (.ins CT dx (aT "function_kinds" (.ref d) (fa3 a b c)))):=tx (c:=a) (.inr ⟨_,s4 _ _ x3⟩)
  have S4:ax x H3 (upd G4 x (.ins CT dx (aT "function_kinds" (.ref d) (fa3 a b c)))):=s4.x.trans (ax.upd _ _ _)
  have T34:gp H3 (upd G4 x (.ins CT dx (aT "function_kinds" (.ref d) (fa3 a b c)))):=fun p xs e=>T4 p xs (s4 _ _ e)
  have T24:gp H2 (upd G4 x (.ins CT dx (aT "function_kinds" (.ref d) (fa3 a b c)))):=fun p xs e=>T34 p xs (T3 p xs (s3 _ _ e))
  refine q _ ⟨dx,a,b,c,d,tp,fp,fk,aa,S4 _ _ nax (S3 _ _ nax (S2 _ _ nax a1)),S4 _ _ nbx (S3 _ _ nbx b2'),S4 _ _ ncx c3',by rw [ac ndx]; exact d4,fun z ps e=>?_,fun z e=>hkn z (qj e),fun z ps k e=>?_,fun z e=>hfn z (qV e)⟩ (S1.trans (S2.trans (S3.trans S4)))
  ·obtain⟨t,ht,rfl,rfl⟩:=jx e
   obtain⟨q',e1,e2⟩:=hk2 t ht
   exact⟨q',e1,T24 _ _ (T2 _ _ e2)⟩
  ·obtain⟨t,ht,rfl,rfl,rfl⟩:=jV e
   obtain⟨q',e1,e2⟩:=hk3' t ht
   obtain⟨y,e3,rfl⟩:=hk4 t ht
   exact⟨q',e1,T34 _ _ (T3 _ _ e2),e3⟩
end
theorem io:∀ ds:List PyData,ds.length≤YE ds
 | []=>Yy _
 | d::ds=>by rw [YE,Ys]; have:=io ds; omega
theorem iq:∀ {ds:List PyData} {i:Nat} {d:PyData},ds[i]? = some d→d.weight<YE ds
 | d::ds,0,_,e=>by cases e; rw [YE]; omega
 | _::ds,i+1,d,e=>by have:=iq (ds:=ds) (i:=i) e; rw [YE]; omega
mutual
theorem iI:∀ {d:PyData},d.weight≤100000→dq d=true
 | .str x,h=>decide_eq_true h
 | .list xs,h=>by
  rw [Xf] at h
  rw [dq,gu h,decide_eq_true (Yn (io xs) h)]; rfl
 | .tuple xs,h=>by
  rw [Xf] at h
  rw [dq,gu h,decide_eq_true (Yn (io xs) h)]; rfl
 | .none,_=>rfl
 | .bool _,_=>rfl
 | .int _,_=>rfl
 | .dict _,_=>rfl
theorem gu:∀ {ds:List PyData},YE ds≤100000→bK ds=true
 | [],_=>rfl
 | d::ds,h=>by
  rw [YE] at h
  rw [bK,iI (show d.weight≤100000 by omega),gu (show YE ds≤100000 by omega)]; rfl
end
mutual
def trD:PyData→Tr
 | .str x=>.leaf x
 | .list xs=>.node (kh xs)
 | .tuple xs=>.node (kh xs)
 | _=>.leaf ""
def kh:List PyData→List Tr
 | []=>[]
 | d::ds=>trD d::kh ds
end
mutual
def m8:PyData→Bool
 | .str _=>true
 | .list xs=>cS xs
 | .tuple xs=>cS xs
 | _=>false
def cS:List PyData→Bool
 | []=>true
 | d::ds=>m8 d&&cS ds
end
mutual
theorem rX:∀ d:PyData,(wr (trD d)).length≤3*d.weight+2
 | .str x=>by rw [trD,wr,Xf]; show x.cps.size≤_; omega
 | .list xs=>by rw [trD,ik,Xf]; have:=ic ((kh xs).map wr); have:=kg xs; omega
 | .tuple xs=>by rw [trD,ik,Xf]; have:=ic ((kh xs).map wr); have:=kg xs; omega
 | .none=>Yy _
 | .bool _=>Yy _
 | .int _=>Yy _
 | .dict _=>Yy _
theorem kg:∀ ds:List PyData,(((kh ds).map wr).map fun x=>x.length+1).sum≤3*YE ds
 | []=>Yy _
 | d::ds=>by rw [kh,YA,YA,YW,YE]; have:=rX d; have:=kg ds; omega
end
theorem jE{H:Hp}{x dx CB:Addr}(hx:H x=none)(hd:H dx=none)(n:dx≠x):Same H (upd (upd H dx (.own x)) x (.ins CB dx [])):=
 (ad hd _).trans (ad (by rw [ac (Ne.symm n)]; exact hx) _)
theorem jF{H H1 H2:Hp}{x:Addr}(hx:H x=none)(s:Same H H1)(t:ax x H1 H2):Same H H2:=fun b o e=>t b o (ae e hx) (s b o e)
abbrev S0:Sco:=fun _=>none
section
abbrev du:Stmt:=top 19
theorem zcg:aj lD0 lD0 (ag du):=by walk_at "F"
inductive spLookE(C N:Addr)(vs:List V)(H:Hp)(Q:VK)(E:XK):Prop | mk (g:Addr) (v:V) (ks:List Str) (ts:List ar) (fs:List am) (d:PyData) (_:vs=[.ref g,v]) (_:aR C H g ks ts fs) (_:aV ks ts fs) (_:Rd0 H v d) (_:d.depth≤14) (_:d.weight≤100000) (_:(bZ ks ts fs d S0=true→∀ u H',Rd0 H' u (jk d)→Same H H'→Q u H')) (_:(bZ ks ts fs d S0=false→∀ H',Same H H'→E (.ref N) none H'))
theorem ui{C CT N fT:Addr}{fdT:FuncData}(F:ah K mg "looked_over" du lD0)(Z:Bl mg)(GD:∃ u,mg "DEEPEST"=some u∧aq (.int 64) u)
  (M_SignTable:Mk K CT fT) (G_SignTable:cK P w K mg base CX0 2 fT fdT lD3 (spTabInit C CT)) (m_SignTable:mg "SignTable"=some (.ref CT)) (b_SignTable:cg K fdT lD3 [])
  (D_checked_saying:aU P w K mg base "checked_saying" (2*14+5) lA4 (spSayE CT N 14)):aU P w K mg base "looked_over" 34 lD0 (spLookE C N):=by
 have SC:=zcg
 obtain⟨_,g_DEEPEST,r_DEEPEST⟩:=GD
 refine F.mkE (k:=33) zcg (fun vs H Q E h=>?_) (fun f cdv A outer s H vs Q E hr h=>?_)
 ·obtain⟨g,v,ks,ts,fs,d,rfl,_⟩:=h
  rfl
 ·obtain⟨g,v,ks,ts,fs,d,rfl,hS,ok,hv,hd,hw,q,no⟩:=h
  refine'⟨_,?dv,?_⟩
  case dv=>(walk_at "S1")
  refine⟨_,rfl,fun x dx hx hdx nd=>?_⟩
  have s1:=jE (CB:=CT) hx hdx nd
  refine⟨x,dx,g,ks,ts,fs,rfl,aa,hS.same s1,ok,fun H2 hT t2=>⟨rfl,?_⟩⟩
  have s2:=jF hx s1 t2
  refine⟨_,rfl,fun sc hsc=>?_⟩
  have s3:=ad hsc (.dK [])
  exact⟨x,sc,v,64,ks,ts,fs,S0,0,d,rfl,hT.same s3,ok,⟨[],aa,Yg _,fun _=>rfl⟩,by decide,Rd0.same hv (s2.trans s3),iI hw,hd,by omega,fun hy u H4 tu s4=>q hy u H4 tu ((s2.trans s3).trans s4),fun hy H' s'=>no hy H' ((s2.trans s3).trans s')⟩
end
def gB(d:Nat):List Nat:=if d=40 then [32,40,32] else if d=41 then [32,41,32] else [d]
theorem lH(x:Str):(Txt.replace (Txt.replace x "(" " ( ") ")" " ) ").cps.toList=x.cps.toList.flatMap gB:=by
 rw [show (")":Str)=⟨#[41]⟩ from rfl,fS,show ("(":Str)=⟨#[40]⟩ from rfl,fS,List.flatMap_assoc]
 congr 1
 funext d
 unfold gB
 by_cases h:d=40
 ·rw [if_pos h,if_pos h]; rfl
 ·rw [if_neg h,if_neg h,List.flatMap_cons,List.flatMap_nil,YS]
  by_cases h2:d=41
  ·rw [if_pos h2,if_pos h2]; rfl
  ·rw [if_neg h2,if_neg h2]
def sT(w:List Nat):Str:=⟨w.toArray⟩
theorem kz(w:List Nat):(sT w).cps.toList=w:=by simp [sT]
def spl:List Nat→List Nat→List Str
 | w,[]=>[sT w]
 | w,c::r=>if c=32 then sT w::spl [] r else spl (w++[c]) r
theorem nr:∀ (l w:List Nat),spl w l≠[]
 | [],w=>by rw [spl]; simp
 | c::r,w=>by
  rw [spl]
  split
  ·simp
  ·exact nr r _
theorem fP:∀ (l w:List Nat),(Str.join " " (spl w l)).cps.toList=w++l
 | [],w=>by rw [spl]; show (sT w).cps.toList=_; rw [kz,YS]
 | c::r,w=>by
  rw [spl]
  split
  ·rename_i h
   subst h
   have:=fP r []
   match e:spl [] r with
   | []=>exact absurd e (nr r [])
   | y::ys=>
    rw [e] at this
    show (Str.join ⟨#[32]⟩ (sT w::y::ys)).cps.toList=_
    rw [bF 32 (sT w) y ys,kz]
    rw [show (Str.join ⟨#[32]⟩ (y::ys)).cps.toList=[]++r from this]
    rfl
  ·rw [fP r,YM]; rfl
theorem iB:∀ (l w:List Nat),32∉w→∀ p∈spl w l,32∉p.cps.toList
 | [],w,h,p,hp=>by rw [spl] at hp; rw [Yp.mp hp,kz]; exact h
 | c::r,w,h,p,hp=>by
  rw [spl] at hp
  split at hp
  ·rcases Yr.mp hp with rfl | hp
   ·rw [kz]; exact h
   ·exact iB r [] (by simp) p hp
  ·rename_i hc
   exact iB r _ (by simp; exact⟨h,fun e=>hc e.symm⟩) p hp
theorem jz(x:Str):Txt.split x " "=spl [] x.cps.toList:=by
 have e:x=Str.join " " (spl [] x.cps.toList):=gs (by rw [fP]; rfl)
 conv=>lhs; rw [e]
 exact nq 32 (nr _ _) (iB _ _ (by simp))
def lK:List (List Tr)→Option (List (List Tr))
 | r::q::rest=>some ((q++[.node r])::rest)
 | _=>none
def vV(w:Str):List (List Tr)→List (List Tr)
 | r::rest=>(r++[.leaf w])::rest
 | []=>[]
def stp(st:List (List Tr))(w:Str):Option (List (List Tr)):=
 if w="(" then some ([]::st) else if w=")" then lK st else if w=Str.empty then some st else some (vV w st)
def run:List Str→List (List Tr)→Option (List (List Tr))
 | [],st=>some st
 | w::ws,st=>(stp st w).bind (run ws)
theorem kC:∀ (a b:List Str) (st:List (List Tr)),run (a++b) st=(run a st).bind (run b)
 | [],_,_=>rfl
 | w::a,b,st=>by
  show (stp st w).bind (run (a++b))=((stp st w).bind (run a)).bind (run b)
  cases stp st w with
  | none=>rfl
  | some s=>exact kC a b s
theorem lG{ws:List Str}{st s:List (List Tr)}{i:Nat}{w:Str}(h:ws[i]? = some w)(e:run (ws.take i) st=some s):run (ws.take (i+1)) st=stp s w:=by
 rw [YL,h,kC,e]
 show (stp s w).bind (run [])=_
 cases stp s w <;> rfl
theorem sI{ws:List Str}{st s:List (List Tr)}{i:Nat}{w:Str}(h:ws[i]? = some w)(e:run (ws.take i) st=some s)(n:stp s w=none):run ws st=none:=by
 have:=kC (ws.take (i+1)) (ws.drop (i+1)) st
 rw [Y4,lG h e,n] at this
 exact this
def flu(w:List Nat)(st:List (List Tr)):List (List Tr):=if w=[] then st else vV (sT w) st
def go:List Nat→List Nat→List (List Tr)→Option (List (List Tr))
 | w,[],st=>some (flu w st)
 | w,c::r,st=>if c=40 then go [] r ([]::flu w st) else if c=41 then (lK (flu w st)).bind (go [] r) else if c=32 then go [] r (flu w st) else go (w++[c]) r st
def pM(w:List Nat):Prop:=∀ c∈w,c≠32∧c≠40∧c≠41
theorem fO{w:List Nat}(h:pM w)(st:List (List Tr)):stp st (sT w)=some (flu w st):=by
 have h1:sT w≠"(":=fun e=>by
  have:=congrArg (fun x:Str=>x.cps.toList) e
  simp only [kz] at this
  exact(h 40 (by rw [this]; decide)).2.1 rfl
 have h2:sT w≠")":=fun e=>by
  have:=congrArg (fun x:Str=>x.cps.toList) e
  simp only [kz] at this
  exact(h 41 (by rw [this]; decide)).2.2 rfl
 unfold stp flu
 rw [if_neg h1,if_neg h2]
 by_cases hw:w=[]
 ·subst hw; rfl
 ·rw [if_neg hw,if_neg]
  intro e
  have:=congrArg (fun x:Str=>x.cps.toList) e
  simp only [kz] at this
  exact hw this
theorem yh(st:List (List Tr)):stp st (sT [40])=some ([]::st):=by
 unfold stp; rw [if_pos (by decide +kernel)]
theorem yg(st:List (List Tr)):stp st (sT [41])=lK st:=by
 unfold stp; rw [if_neg (by decide +kernel),if_pos (by decide +kernel)]
theorem iJ:∀ (l w:List Nat) (st:List (List Tr)),pM w→run (spl w (l.flatMap gB)) st=go w l st
 | [],w,st,h=>by
  show (stp st (sT w)).bind (run [])=_
  rw [fO h]; rfl
 | c::r,w,st,h=>by
  rw [List.flatMap_cons,go]
  by_cases h1:c=40
  ·subst h1
   rw [if_pos rfl]
   show run (spl w (32::40::32::r.flatMap gB)) st=_
   have e:spl w (32::40::32::r.flatMap gB)=sT w::sT [40]::spl [] (r.flatMap gB):=by
    rw [spl,if_pos rfl,spl,if_neg (by decide),spl,if_pos rfl]; rfl
   rw [e]
   show (stp st (sT w)).bind (fun s=>(stp s (sT [40])).bind (run (spl [] (r.flatMap gB))))=_
   rw [fO h]
   show (stp (flu w st) (sT [40])).bind (run (spl [] (r.flatMap gB)))=_
   rw [yh]
   exact iJ r [] _ (fun _ z=>nomatch z)
  by_cases h2:c=41
  ·subst h2
   rw [if_neg (by decide),if_pos rfl]
   show run (spl w (32::41::32::r.flatMap gB)) st=_
   have e:spl w (32::41::32::r.flatMap gB)=sT w::sT [41]::spl [] (r.flatMap gB):=by
    rw [spl,if_pos rfl,spl,if_neg (by decide),spl,if_pos rfl]; rfl
   rw [e]
   show (stp st (sT w)).bind (fun s=>(stp s (sT [41])).bind (run (spl [] (r.flatMap gB))))=_
   rw [fO h]
   show (stp (flu w st) (sT [41])).bind (run (spl [] (r.flatMap gB)))=_
   rw [yg]
   cases lK (flu w st) with
   | none=>rfl
   | some s=>exact iJ r [] s (fun _ z=>nomatch z)
  have e:gB c=[c]:=by unfold gB; rw [if_neg h1,if_neg h2]
  rw [e,if_neg h1,if_neg h2]
  show run (spl w (c::r.flatMap gB)) st=_
  rw [spl]
  by_cases h3:c=32
  ·rw [if_pos h3,if_pos h3]
   show (stp st (sT w)).bind (run (spl [] (r.flatMap gB)))=_
   rw [fO h]
   exact iJ r [] _ (fun _ z=>nomatch z)
  ·rw [if_neg h3,if_neg h3]
   refine iJ r _ st fun d hd=>?_
   rcases YN.mp hd with hd | hd
   ·exact h d hd
   ·rw [Yp.mp hd]; exact⟨h3,h1,h2⟩
def mQ:Option (List (List Tr))→Option Tr
 | some [[t]]=>some t
 | _=>none
def brk(x:Str):Option Tr:=mQ (go [] x.cps.toList [[]])
abbrev aQ(x:Str):List Str:=Txt.split (Txt.replace (Txt.replace x "(" " ( ") ")" " ) ") " "
theorem rO(x:Str):run (aQ x) [[]]=go [] x.cps.toList [[]]:=by
 rw [aQ,jz,lH]
 exact iJ _ _ _ fun _ z=>nomatch z
mutual
def wtT:Tr→Nat
 | .leaf x=>x.length
 | .node ts=>wtA ts
def wtA:List Tr→Nat
 | []=>0
 | t::ts=>1+wtT t+wtA ts
end
theorem j9:∀ a b:List Tr,wtA (a++b)=wtA a+wtA b
 | [],b=>by rw [Xu,wtA,Nat.zero_add]
 | t::a,b=>by rw [List.cons_append,wtA,wtA,j9 a b]; omega
def wtS(st:List (List Tr)):Nat:=(st.map fun r=>1+wtA r).sum
theorem vU(x:Str):∀ st:List (List Tr),wtS (vV x st)≤wtS st+1+x.length
 | []=>Yy _
 | r::q=>by
  simp only [vV,wtS,YA,YW,j9,wtA,wtT]; omega
theorem yp(w:List Nat):(sT w).length=w.length:=by show (sT w).cps.size=_; simp [sT]
theorem u5(w:List Nat)(st:List (List Tr)):wtS (flu w st)≤wtS st+2*w.length:=by
 unfold flu
 split
 ·omega
 ·rename_i h
  have:=vU (sT w) st
  have : 0<w.length:=List.length_pos_iff.mpr h
  rw [yp] at *
  omega
theorem wb{st s:List (List Tr)}(h:lK st=some s):wtS s≤wtS st:=by
 match st,h with
 | r::q::rest,h=>
  cases h
  simp only [wtS,YA,YW,j9,wtA,wtT]; omega
theorem mD:∀ (l w:List Nat) (st fin:List (List Tr)),go w l st=some fin→wtS fin≤wtS st+2*w.length+2*l.length
 | [],w,st,fin,h=>by
  rw [go] at h; cases h
  have:=u5 w st
  omega
 | c::r,w,st,fin,h=>by
  have f:=u5 w st
  rw [go] at h
  rw [Ys]
  split at h
  ·have:=mD r [] _ fin h
   simp only [wtS,YA,YW,wtA,YR] at this f
   simp only [wtS]
   omega
  split at h
  ·cases e:lK (flu w st) with
   | none=>rw [e] at h; cases h
   | some s=>
    rw [e] at h
    have p:=wb e
    have:=mD r [] s fin h
    simp only [YR] at this
    omega
  split at h
  ·have:=mD r [] _ fin h
   simp only [YR] at this
   omega
  ·have:=mD r _ _ fin h
   simp only [Yw,Ys,YR] at this
   omega
theorem kZ{x:Str}{t:Tr}(h:brk x=some t):wtT t≤2*x.length:=by
 unfold brk at h
 unfold mQ at h
 split at h
 ·rename_i u e
  cases h
  have:=mD _ _ _ _ e
  simp only [wtS,YA,List.map_nil,YW,List.sum_nil,wtA,YR] at this
  have l:x.length=x.cps.toList.length:=by show x.cps.size=_; simp
  omega
 ·cases h
def Bal(n:Nat)(l:List Nat):Prop:=∀ i,(l.take i).count 40≤(l.take i).count 41+n
theorem Bal.le{n m:Nat}{l:List Nat}(h:Bal n l)(k:n≤m):Bal m l:=fun i=>Yn (h i) (by omega)
theorem Ax(a c:Nat):[c].count a≤1:=by rw [List.count_singleton]; split <;> omega
theorem Bal.ins{n:Nat}{a b:List Nat}(c:Nat)(h:Bal n (a++b)):Bal (n+1) (a++c::b):=by
 intro i
 by_cases hi:i≤a.length
 ·have:=h i
  rw [List.take_append_of_le_length hi] at this ⊢
  omega
 ·have:=h (i-1)
  rw [List.take_append,YF (by omega),YJ,YJ] at this ⊢
  obtain⟨k,rfl⟩:∃ k,i=a.length+1+k:=⟨i-a.length-1,by omega⟩
  rw [show a.length+1+k-a.length=k+1 by omega,Xz]
  rw [show a.length+1+k-1-a.length=k by omega] at this
  have e1:=YJ (l₁:=[c]) (l₂:=b.take k) (a:=40)
  have e2:=YJ (l₁:=[c]) (l₂:=b.take k) (a:=41)
  have:=Ax 40 c
  show a.count 40+([c]++b.take k).count 40≤a.count 41+([c]++b.take k).count 41+(n+1)
  omega
theorem Bal.del{n:Nat}{a b:List Nat}{c:Nat}(h:Bal n (a++c::b)):Bal (n+1) (a++b):=by
 intro i
 by_cases hi:i≤a.length
 ·have:=h i
  rw [List.take_append_of_le_length hi] at this ⊢
  omega
 ·have:=h (i+1)
  rw [List.take_append,YF (by omega),YJ,YJ] at this ⊢
  obtain⟨k,rfl⟩:∃ k,i=a.length+k:=⟨i-a.length,by omega⟩
  rw [show a.length+k+1-a.length=k+1 by omega,Xz] at this
  rw [show a.length+k-a.length=k by omega]
  have e1:=YJ (l₁:=[c]) (l₂:=b.take k) (a:=40)
  have e2:=YJ (l₁:=[c]) (l₂:=b.take k) (a:=41)
  have:=Ax 41 c
  have h':a.count 40+([c]++b.take k).count 40≤a.count 41+([c]++b.take k).count 41+n:=by assumption
  omega
def rJ(n:Nat):List (List Tr)→Prop
 | []=>True
 | r::q=>cQ r+q.length≤n∧rJ n q
theorem je:∀ a b:List Tr,cQ (a++b)=max (cQ a) (cQ b)
 | [],b=>by rw [Xu,cQ,Nat.zero_max]
 | t::a,b=>by rw [List.cons_append,cQ,cQ,je a b,Nat.max_assoc]
theorem rJ.flu{n:Nat}{w:List Nat}{st:List (List Tr)}(h:rJ n st):rJ n (flu w st)∧(Few.flu w st).length=st.length:=by
 unfold Few.flu
 split
 ·exact⟨h,rfl⟩
 ·match st,h with
  | [],_=>exact⟨trivial,rfl⟩
  | r::q,h=>
   refine⟨⟨?_,h.2⟩,rfl⟩
   have:=h.1
   rw [je]
   show max (cQ r) (max 0 0)+q.length≤n
   simpa using this
theorem i7{n:Nat}:∀ (l w:List Nat) (st fin:List (List Tr)),go w l st=some fin→rJ n st→(∀ i,(l.take i).count 40+st.length≤(l.take i).count 41+n+1)→rJ n fin
 | [],w,st,fin,h,hd,_=>by
  rw [go] at h; cases h
  exact hd.flu.1
 | c::r,w,st,fin,h,hd,hb=>by
  obtain⟨f1,f2⟩:=hd.flu (w:=w)
  rw [go] at h
  have hb1:=fun i=>hb (i+1)
  simp only [Xz,List.count_cons] at hb1
  split at h
  ·rename_i hc
   subst hc
   refine i7 r [] _ fin h ⟨?_,f1⟩ fun i=>?_
   ·have:=hb1 0
    simp at this
    rw [f2]
    show 0+_≤n
    omega
   ·have:=hb1 i
    simp at this
    simp only [Ys,f2]
    omega
  split at h
  ·rename_i h1 hc
   subst hc
   cases e:lK (flu w st) with
   | none=>rw [e] at h; cases h
   | some s=>
    rw [e] at h
    match flu w st,e,f1,f2 with
    | r'::q::rest,e,f1,f2=>
     cases e
     refine i7 r [] _ fin h ⟨?_,f1.2.2⟩ fun i=>?_
     ·have a:=f1.1
      have b:=f1.2.1
      rw [je]
      show max (cQ q) (max (1+cQ r') 0)+rest.length≤n
      simp only [Ys] at a
      omega
     ·have:=hb1 i
      simp at this
      simp only [Ys] at f2 ⊢
      omega
  rename_i h1 h2
  have hb2:∀ i,(r.take i).count 40+st.length≤(r.take i).count 41+n+1:=fun i=>by
   have:=hb1 i
   rw [if_neg (by simp; exact h1),if_neg (by simp; exact h2)] at this
   exact this
  split at h
  ·exact i7 r [] _ fin h f1 fun i=>by rw [f2]; exact hb2 i
  ·exact i7 r _ _ fin h hd hb2
theorem ie{n:Nat}{x:Str}{t:Tr}(h:brk x=some t)(b:Bal n x.cps.toList):dep t≤n:=by
 unfold brk at h
 unfold mQ at h
 split at h
 ·rename_i u e
  cases h
  have:=i7 (n:=n) _ _ _ _ e ⟨Yy _,trivial⟩ (fun i=>by have:=b i; simp only [Ys,YR]; omega)
  have:=this.1
  simp only [cQ,YR] at this
  omega
 ·cases h
mutual
inductive mU(k:List V→HO)(R:Addr→Prop)(H:Hp):V→Tr→Prop where
 | leaf (x:Str):mU k R H (.str x) (.leaf x)
 | node {a:Addr} {xs:List V} {ts:List Tr}:R a→H a=some (k xs)→cO k R H xs ts→mU k R H (.ref a) (.node ts)
inductive cO(k:List V→HO)(R:Addr→Prop)(H:Hp):List V→List Tr→Prop where
 | nil:cO k R H [] []
 | cons {x:V} {xs:List V} {t:Tr} {ts:List Tr}:mU k R H x t→cO k R H xs ts→cO k R H (x::xs) (t::ts)
end
mutual
theorem qJ{k:List V→HO}{R R':Addr→Prop}{H H':Hp}(z:∀ b o,R b→H b=some o→R' b∧H' b=some o):∀ {v:V} {t:Tr},mU k R H v t→mU k R' H' v t
 | _,_,.leaf x=>.leaf x
 | _,_,.node r h m=>.node (z _ _ r h).1 (z _ _ r h).2 (bB z m)
theorem bB{k:List V→HO}{R R':Addr→Prop}{H H':Hp}(z:∀ b o,R b→H b=some o→R' b∧H' b=some o):∀ {v:List V} {t:List Tr},cO k R H v t→cO k R' H' v t
 | _,_,.nil=>.nil
 | _,_,.cons a r=>.cons (qJ z a) (bB z r)
end
mutual
def lsD:Tr→PyData
 | .leaf x=>.str x
 | .node ts=>.list (dQ ts)
def dQ:List Tr→List PyData
 | []=>[]
 | t::ts=>lsD t::dQ ts
end
mutual
def tuD:Tr→PyData
 | .leaf x=>.str x
 | .node ts=>.tuple (cm ts)
def cm:List Tr→List PyData
 | []=>[]
 | t::ts=>tuD t::cm ts
end
mutual
theorem rS:∀ t:Tr,jk (lsD t)=tuD t
 | .leaf x=>rfl
 | .node ts=>by rw [lsD,jk,tuD,oW ts]
theorem oW:∀ t:List Tr,cN (dQ t)=cm t
 | []=>rfl
 | t::ts=>by rw [dQ,cN,cm,rS t,oW ts]
end
mutual
theorem gF:∀ t:Tr,(lsD t).depth=dep t∧(tuD t).depth=dep t∧(lsD t).weight=wtT t∧(tuD t).weight=wtT t
 | .leaf x=>⟨rfl,rfl,rfl,rfl⟩
 | .node ts=>by
  obtain⟨a,b,c,d⟩:=pG ts
  rw [lsD,tuD,XB,XB,Xf,Xf,dep,wtT,a,b,c,d]
  exact⟨by omega,by omega,rfl,rfl⟩
theorem pG:∀ t:List Tr,YG (dQ t)=cQ t∧YG (cm t)=cQ t∧YE (dQ t)=wtA t∧YE (cm t)=wtA t
 | []=>⟨rfl,rfl,rfl,rfl⟩
 | t::ts=>by
  obtain⟨a,b,c,d⟩:=gF t
  obtain⟨a',b',c',d'⟩:=pG ts
  rw [dQ,cm,YG,YG,YE,YE,cQ,wtA,a,b,c,d,a',b',c',d']
  exact⟨by omega,by omega,by omega,by omega⟩
end
mutual
theorem pE{R:Addr→Prop}{H:Hp}:∀ {v:V} {t:Tr},mU .lst R H v t→Rd0 H v (lsD t)
 | _,_,.leaf x=>.str x
 | _,_,.node _ h z=>by rw [lsD]; exact .lst trivial h (me z)
theorem me{R:Addr→Prop}{H:Hp}:∀ {v:List V} {t:List Tr},cO .lst R H v t→aP H v (dQ t)
 | _,_,.nil=>.nil
 | _,_,.cons a r=>.cons (pE a) (me r)
end
mutual
theorem pC{R:Addr→Prop}{H:Hp}:∀ {v:V} {t:Tr},mU .tup R H v t→Rd0 H v (tuD t)
 | _,_,.leaf x=>.str x
 | _,_,.node _ h z=>by rw [tuD]; exact .tup trivial h (lZ z)
theorem lZ{R:Addr→Prop}{H:Hp}:∀ {v:List V} {t:List Tr},cO .tup R H v t→aP H v (cm t)
 | _,_,.nil=>.nil
 | _,_,.cons a r=>.cons (pC a) (lZ r)
end
mutual
theorem nM{H:Hp}:∀ {t:Tr} {v:V},Rd0 H v (tuD t)→Tup H v t
 | .leaf x,_,h=>by rw [tuD] at h; cases h; exact .leaf x
 | .node ts,_,h=>by
  rw [tuD] at h
  cases h with
  | tup _ e r=>exact .node e (pf r)
theorem pf{H:Hp}:∀ {ts:List Tr} {vs:List V},aP H vs (cm ts)→df H vs ts
 | [],_,.nil=>.nil
 | t::ts,_,.cons a r=>.cons (nM a) (pf r)
end
mutual
theorem kN(fs:List am)(sc:Sco):∀ t:Tr,aO fs sc (lsD t)=aO fs sc (tuD t)
 | .leaf x=>rfl
 | .node ts=>by
  rw [lsD,tuD,aO,aO]
  match ts with
  | []=>rfl
  | .node _::_=>rfl
  | .leaf f::r=>
   show j5 fs sc (.str f::dQ r)=j5 fs sc (.str f::cm r)
   rw [j5,j5]
   split
   ·rw [nJ fs sc r]
   ·rfl
theorem nJ(fs:List am)(sc:Sco):∀ (ts:List Tr) (ps:List Str),br fs sc (dQ ts) ps=br fs sc (cm ts) ps
 | [],_=>rfl
 | _::_,[]=>rfl
 | t::ts,p::ps=>by rw [dQ,cm,br,br,kN fs sc t,nJ fs sc ts ps]
end
theorem pF:∀ ts:List Tr,(dQ ts).length=(cm ts).length
 | []=>rfl
 | t::ts=>by rw [dQ,cm,Ys,Ys,pF ts]
theorem Av(fs:List am)(sc:Sco):∀ ts:List Tr,eqD fs sc (dQ ts)=eqD fs sc (cm ts)
 | []=>rfl
 | [_]=>rfl
 | [a,b]=>by
  show eqD fs sc [lsD a,lsD b]=eqD fs sc [tuD a,tuD b]
  rw [eqD,eqD,kN,kN]
 | _::_::_::_=>rfl
mutual
theorem nH(ks:List Str)(ts:List ar)(fs:List am):∀ (t:Tr) (sc:Sco),bZ ks ts fs (lsD t) sc=bZ ks ts fs (tuD t) sc
 | .leaf x,_=>rfl
 | .node l,sc=>by
  rw [lsD,tuD,bZ,bZ]
  match l with
  | []=>rfl
  | .node _::_=>rfl
  | .leaf f::r=>
   show di ks ts fs (.str f::dQ r) sc=di ks ts fs (.str f::cm r) sc
   rw [di,di,Av,pF,vB ks ts fs r sc,xu ks ts fs r sc]
   split; rfl
   split; rfl
   split; rfl
   split; rfl
   split
   ·exact nJ fs sc r _
   ·rfl
theorem vB(ks:List Str)(ts:List ar)(fs:List am):∀ (t:List Tr) (sc:Sco),dW ks ts fs (dQ t) sc=dW ks ts fs (cm t) sc
 | [],_=>rfl
 | t::r,sc=>by rw [dQ,cm,dW,dW,nH ks ts fs t sc,vB ks ts fs r sc]
theorem xu(ks:List Str)(ts:List ar)(fs:List am):∀ (t:List Tr) (sc:Sco),ck ks ts fs (dQ t) sc=ck ks ts fs (cm t) sc
 | .leaf v::.leaf k::x::r,sc=>by
  show ck ks ts fs (.str v::.str k::lsD x::dQ r) sc=ck ks ts fs (.str v::.str k::tuD x::cm r) sc
  rw [ck,ck,nH ks ts fs x _]
  cases r <;> rfl
 | [],_=>rfl
 | [.leaf _],_=>rfl
 | [.leaf _,.leaf _],_=>rfl
 | .leaf _::.node _::_,_=>rfl
 | .node _::_,_=>rfl
end
theorem cO.length{k:List V→HO}{R:Addr→Prop}{H:Hp}:∀ {v:List V} {t:List Tr},cO k R H v t→v.length=t.length
 | _,_,.nil=>rfl
 | _,_,.cons _ r=>by rw [Ys,Ys,cO.length r]
theorem cO.snoc{k:List V→HO}{R:Addr→Prop}{H:Hp}{x:V}{y:Tr}:∀ {v:List V} {t:List Tr},cO k R H v t→mU k R H x y→cO k R H (v++[x]) (t++[y])
 | _,_,.nil,h=>.cons h .nil
 | _,_,.cons a r,h=>.cons a (cO.snoc r h)
def pW(k:List V→HO)(D:Addr)(as:List Addr)(H:Hp)(a:Addr)(ts:List Tr):Prop:=∃ xs,H a=some (.lst xs)∧cO k (fun b=>b≠D∧b∉as) H xs ts
structure bN(k:List V→HO)(H0 H:Hp)(D:Addr)(as:List Addr)(st:List (List Tr)):Prop where
 same:Same H0 H
 fd:H0 D=none
 fa:∀ a∈as,H0 a=none
 nd:(D::as).Nodup
 d:H D=some (.lst (as.reverse.map V.ref))
 rows:Paired (pW k D as H) as st
theorem Paired.mem{α β:Type}{F G:α→β→Prop}:∀ {a:List α} {b:List β},Paired F a b→(∀ x y,x∈a→F x y→G x y)→Paired G a b
 | _,_,.nil,_=>.nil
 | _,_,.cons h t,k=>.cons (k _ _ Yl h) (Paired.mem t fun x y hx=>k x y (Yj _ hx))
theorem Paired.left{α β:Type}{F:α→β→Prop}:∀ {a:List α} {b:List β} {x:α},Paired F a b→x∈a→∃ y,F x y
 | _,_,_,.cons h t,hx=>by
  rcases Yr.mp hx with rfl | hx
  ·exact⟨_,h⟩
  ·exact Paired.left t hx
theorem pW.mono{k:List V→HO}{D:Addr}{as as':List Addr}{H H':Hp}{a:Addr}{ts:List Tr}(h:pW k D as H a ts)(ha:∀ o,H a=some o→H' a=some o)(z:∀ b o,b≠D∧b∉as→H b=some o→(b≠D∧b∉as')∧H' b=some o):pW k D as' H' a ts:=
 let ⟨xs,e,m⟩:=h; ⟨xs,ha _ e,bB z m⟩
theorem bN.push{k:List V→HO}{H0 H:Hp}{D p:Addr}{as:List Addr}{st:List (List Tr)}(h:bN k H0 H D as st)(hp:H p=none):bN k H0 (upd (upd H p (.lst [])) D (.lst (as.reverse.map V.ref++[.ref p]))) D (p::as) ([]::st):=by
 have nd:=YH.mp h.nd
 have pD:p≠D:=fun e=>by rw [e,h.d] at hp; cases hp
 have al:∀ a∈as,∃ o,H a=some o:=fun a ha=>by
  obtain⟨ts,xs,e,_⟩:=Paired.left h.rows ha
  exact⟨_,e⟩
 have pa:p∉as:=fun e=>by obtain⟨o,e2⟩:=al p e; rw [hp] at e2; cases e2
 refine⟨fun c o e=>by rw [ac (ae e h.fd)]; exact ad hp _ _ _ (h.same _ _ e),h.fd,fun a ha=>?_,?_,?_,?_⟩
 ·rcases Yr.mp ha with rfl | ha
  ·exact h.same.free hp
  ·exact h.fa a ha
 ·refine YH.mpr ⟨fun e=>?_,YH.mpr ⟨pa,nd.2⟩⟩
  rcases Yr.mp e with e | e
  ·exact pD e.symm
  ·exact nd.1 e
 ·rw [aa,Xj,Yz]; rfl
 ·refine .cons ⟨[],by rw [ac pD]; exact aa,.nil⟩ (Paired.mem h.rows fun a ts ha r=>r.mono (fun o e=>?_) fun b o hb e=>⟨⟨hb.1,fun z=>?_⟩,?_⟩)
  ·rw [ac (show a≠D from fun z=>nd.1 (z▸ha)),ac (ae e hp)]; exact e
  ·rcases Yr.mp z with z | z
   ·rw [z,hp] at e; cases e
   ·exact hb.2 z
  ·rw [ac hb.1,ac (ae e hp)]; exact e
theorem bN.add{k:List V→HO}{H0 H:Hp}{D a:Addr}{as:List Addr}{r:List Tr}{st:List (List Tr)}{xs:List V}{w:Str}(h:bN k H0 H D (a::as) (r::st))(hx:H a=some (.lst xs)):bN k H0 (upd H a (.lst (xs++[.str w]))) D (a::as) ((r++[.leaf w])::st):=by
 have nd:=YH.mp h.nd
 have nd2:=YH.mp nd.2
 have aD:D≠a:=fun e=>nd.1 (by rw [e]; exact Yl)
 have hrow:=h.rows
 cases hrow with
 | cons f t=>
  obtain⟨ys,e,m⟩:=f
  rw [hx] at e; cases e
  have kk:∀ b o,b≠D∧b∉a::as→H b=some o→(b≠D∧b∉a::as)∧(upd H a (.lst (xs++[.str w]))) b=some o:=fun b o hb e=>⟨hb,by rw [ac (fun z=>hb.2 (by rw [z]; exact Yl))]; exact e⟩
  refine⟨fun c o e=>by rw [ac (ae e (h.fa a Yl))]; exact h.same _ _ e,h.fd,h.fa,h.nd,by rw [ac aD]; exact h.d,.cons ⟨_,aa,(bB kk m).snoc (.leaf w)⟩ (Paired.mem t fun b ts hb rr=>rr.mono (fun o e=>?_) kk)⟩
  rw [ac (show b≠a from fun z=>nd2.1 (z▸hb))]; exact e
theorem bN.pop{H0 H:Hp}{D a b:Addr}{as:List Addr}{r q:List Tr}{st:List (List Tr)}{ys:List V}(h:bN .lst H0 H D (a::b::as) (r::q::st))(hy:H b=some (.lst ys)):bN .lst H0 (upd (upd H D (.lst ((b::as).reverse.map V.ref))) b (.lst (ys++[.ref a]))) D (b::as) ((q++[.node r])::st):=by
 have nd:=YH.mp h.nd
 have nd2:=YH.mp nd.2
 have nd3:=YH.mp nd2.2
 have aD:a≠D:=fun e=>nd.1 (by rw [← e]; exact Yl)
 have bD:D≠b:=fun e=>nd.1 (by rw [e]; exact Yj _ Yl)
 have ab:a≠b:=fun e=>nd2.1 (by rw [e]; exact Yl)
 have hrow:=h.rows
 cases hrow with
 | cons f t=>
 cases t with
 | cons g t=>
  obtain⟨xs,ex,mx⟩:=f
  obtain⟨zs,ez,mz⟩:=g
  rw [hy] at ez; cases ez
  have kk:∀ c o,c≠D∧c∉a::b::as→H c=some o→(c≠D∧c∉b::as)∧(upd (upd H D (.lst ((b::as).reverse.map V.ref))) b (.lst (ys++[.ref a]))) c=some o:=fun c o hc e=>⟨⟨hc.1,fun z=>hc.2 (Yj _ z)⟩,by rw [ac (fun z=>hc.2 (by rw [z]; exact Yj _ Yl)),ac hc.1]; exact e⟩
  refine⟨fun c o e=>by rw [ac (ae e (h.fa b (Yj _ Yl))),ac (ae e h.fd)]; exact h.same _ _ e,h.fd,fun c hc=>h.fa c (Yj _ hc),YH.mpr ⟨fun z=>nd.1 (Yj _ z),nd2.2⟩,by rw [ac bD]; exact aa,.cons ⟨_,aa,(bB kk mz).snoc (.node ⟨aD,nd2.1⟩ (by rw [ac ab,ac aD]; exact ex) (bB kk mx))⟩ (Paired.mem t fun c ts hc rr=>rr.mono (fun o e=>?_) kk)⟩
  rw [ac (show c≠b from fun z=>nd3.1 (z▸hc)),ac (show c≠D from fun z=>nd.1 (z▸Yj _ (Yj _ hc)))]; exact e
theorem bN.popT{H0 H:Hp}{D a b p:Addr}{as:List Addr}{r q:List Tr}{st:List (List Tr)}{xs ys:List V}(h:bN .tup H0 H D (a::b::as) (r::q::st))(hx:H a=some (.lst xs))(hy:H b=some (.lst ys))(hp:H p=none):bN .tup H0 (upd (upd (upd H D (.lst ((b::as).reverse.map V.ref))) p (.tup xs)) b (.lst (ys++[.ref p]))) D (b::as) ((q++[.node r])::st):=by
 have nd:=YH.mp h.nd
 have nd2:=YH.mp nd.2
 have nd3:=YH.mp nd2.2
 have pD:p≠D:=fun e=>by rw [e,h.d] at hp; cases hp
 have pb:p≠b:=fun e=>by rw [e,hy] at hp; cases hp
 have bD:D≠b:=fun e=>nd.1 (by rw [e]; exact Yj _ Yl)
 have pas:p∉as:=fun e=>by
  have hrow:=h.rows
  cases hrow with
  | cons f t=>
  cases t with
  | cons g t=>
   obtain⟨ts,xs,e2,_⟩:=Paired.left t e
   rw [hp] at e2; cases e2
 have hrow:=h.rows
 cases hrow with
 | cons f t=>
 cases t with
 | cons g t=>
  obtain⟨xs',ex,mx⟩:=f
  rw [hx] at ex; cases ex
  obtain⟨zs,ez,mz⟩:=g
  rw [hy] at ez; cases ez
  have kk:∀ c o,c≠D∧c∉a::b::as→H c=some o→(c≠D∧c∉b::as)∧(upd (upd (upd H D (.lst ((b::as).reverse.map V.ref))) p (.tup xs)) b (.lst (ys++[.ref p]))) c=some o:=fun c o hc e=>⟨⟨hc.1,fun z=>hc.2 (Yj _ z)⟩,by rw [ac (fun z=>hc.2 (by rw [z]; exact Yj _ Yl)),ac (ae e hp),ac hc.1]; exact e⟩
  refine⟨fun c o e=>by rw [ac (ae e (h.fa b (Yj _ Yl))),ac (ae (h.same _ _ e) hp),ac (ae e h.fd)]; exact h.same _ _ e,h.fd,fun c hc=>h.fa c (Yj _ hc),YH.mpr ⟨fun z=>nd.1 (Yj _ z),nd2.2⟩,by rw [ac bD,ac (Ne.symm pD)]; exact aa,.cons ⟨_,aa,(bB kk mz).snoc (.node ⟨pD,fun z=>?_⟩ (by rw [ac pb]; exact aa) (bB kk mx))⟩ (Paired.mem t fun c ts hc rr=>rr.mono (fun o e=>?_) kk)⟩
  ·rcases Yr.mp z with z | z
   ·exact pb z
   ·exact pas z
  ·rw [ac (show c≠b from fun z=>nd3.1 (z▸hc)),ac (ae e hp),ac (show c≠D from fun z=>nd.1 (z▸Yj _ (Yj _ hc)))]; exact e
mutual
def rE:Tr→Prop
 | .leaf x=>∀ c∈x.cps.toList,c≠40∧c≠41
 | .node ts=>mT ts
def mT:List Tr→Prop
 | []=>True
 | t::ts=>rE t∧mT ts
end
theorem Bal.free{l:List Nat}(h:∀ c∈l,c≠40∧c≠41)(n:Nat):Bal n l:=fun i=>by
 rw [Xk fun z=>(h 40 (Y1 z)).1 rfl]; omega
theorem vn{l:List Nat}(h:∀ c∈l,c≠40∧c≠41):l.count 40=l.count 41:=by
 rw [Xk fun z=>(h 40 z).1 rfl,Xk fun z=>(h 41 z).2 rfl]
theorem Bal.app{n:Nat}{a b:List Nat}(ha:Bal n a)(e:a.count 40=a.count 41)(hb:Bal n b):Bal n (a++b):=fun i=>by
 rw [List.take_append,YJ,YJ]
 by_cases h:i≤a.length
 ·rw [show i-a.length=0 by omega,List.take_zero]
  exact ha i
 ·rw [YF (by omega),e]
  have:=hb (i-a.length)
  omega
theorem Bal.wrap{n:Nat}{l:List Nat}(h:Bal n l):Bal (n+1) (40::(l++[41])):=fun i=>by
 cases i with
 | zero=>exact Yy _
 | succ i=>
  rw [Xz,List.count_cons,List.count_cons,List.take_append,YJ,YJ]
  have:=h i
  have e:(List.take (i-l.length) [41]).count 40=0:=Xk fun z=>by have:=Y1 z; simp at this
  rw [e]
  simp
  omega
mutual
theorem mY:∀ t:Tr,rE t→∀ n,dep t≤n→Bal n (wr t).cps.toList∧(wr t).cps.toList.count 40=(wr t).cps.toList.count 41
 | .leaf x,h,n,_=>by rw [wr]; exact⟨Bal.free h n,vn h⟩
 | .node ts,h,n,hn=>by
  rw [dep] at hn
  obtain⟨n,rfl⟩:∃ m,n=m+1:=⟨n-1,by omega⟩
  obtain⟨a,b⟩:=oR ts h n (by omega)
  rw [wr,aG,aG]
  have e:("(":Str).cps.toList++(Str.join " " (wrA ts)).cps.toList++(")":Str).cps.toList=40::((Str.join " " (wrA ts)).cps.toList++[41]):=rfl
  rw [e]
  refine⟨a.wrap,?_⟩
  rw [List.count_cons,List.count_cons,YJ,YJ,b]
  simp
theorem oR:∀ t:List Tr,mT t→∀ n,cQ t≤n→Bal n (Str.join " " (wrA t)).cps.toList∧(Str.join " " (wrA t)).cps.toList.count 40=(Str.join " " (wrA t)).cps.toList.count 41
 | [],_,n,_=>by rw [wrA]; exact⟨Bal.free (fun c z=>by cases z) n,rfl⟩
 | [t],h,n,hn=>by
  rw [cQ] at hn
  rw [wrA,wrA]
  exact mY t h.1 n (by omega)
 | t::u::r,h,n,hn=>by
  rw [cQ] at hn
  obtain⟨a,b⟩:=mY t h.1 n (by omega)
  obtain⟨c,d⟩:=oR (u::r) h.2 n (by omega)
  have e:(Str.join " " (wrA (t::u::r))).cps.toList=((wr t).cps.toList++[32])++(Str.join " " (wrA (u::r))).cps.toList:=by
   rw [wrA,wrA]
   have:=bF 32 (wr t) (wr u) (wrA r)
   rw [show (Str.join " " (wr t::wr u::wrA r)).cps.toList=_ from this,YM]
   rfl
  rw [e]
  have b1:((wr t).cps.toList++[32]).count 40=((wr t).cps.toList++[32]).count 41:=by rw [YJ,YJ,b]; rfl
  exact⟨Bal.app (Bal.app a b (Bal.free (fun c z=>by rw [Yp.mp z]; decide) n)) b1 c,by rw [YJ,YJ (a:=41),b1,d]⟩
end
theorem zch:LD "NoSaying":=by decide +kernel
theorem zci:LD "len":=by decide +kernel
theorem zcj:LM "len":=by decide +kernel
theorem zck:LD "row":=by decide +kernel
theorem zcl:LS "row":=by decide +kernel
theorem zcm:LD "rows":=by decide +kernel
theorem zcn:LS "rows":=by decide +kernel
theorem zco:LD "text":=by decide +kernel
theorem zcp:LS "text":=by decide +kernel
theorem zcq:LD "word":=by decide +kernel
theorem zcr:LS "word":=by decide +kernel
theorem gf{f:Nat→List Nat}(h:∀ d,(f d).length≤3):∀ l:List Nat,(l.flatMap f).length≤3*l.length
 | []=>by simp
 | d::r=>by
  rw [List.flatMap_cons,Yw,Ys]
  have:=h d
  have:=gf h r
  omega
theorem ig{st:List (List Tr)}(h:∀ t,st≠[[t]]):mQ (some st)=none:=by
 unfold mQ
 split
 ·rename_i t e
  cases e
  exact absurd rfl (h t)
 ·rfl
mutual
theorem rY:∀ t:Tr,trD (tuD t)=t
 | .leaf x=>rfl
 | .node ts=>by rw [tuD,trD,oX ts]
theorem oX:∀ t:List Tr,kh (cm t)=t
 | []=>rfl
 | t::ts=>by rw [cm,kh,rY t,oX ts]
end
theorem qb(x:Str)(hl:x.length≤100000):(aQ x).length≤900001∧∀ w∈aQ x,w.length≤900000:=by
 have sl:∀ x:Str,x.length=x.cps.toList.length:=fun x=>by show x.cps.size=_; simp
 have e:Str.join " " (aQ x)=Txt.replace (Txt.replace x "(" " ( ") ")" " ) ":=gs (by rw [aQ,jz,fP]; rfl)
 have l:(Txt.replace (Txt.replace x "(" " ( ") ")" " ) ").length≤3*x.length:=by
  rw [sl,sl,lH]
  exact gf (fun d=>by unfold gB; split; decide; split; decide; exact(by decide:1≤3)) _
 rw [← e] at l
 have js:=i0 (aQ x)
 refine⟨by omega,fun w hw=>?_⟩
 have:=join_mem_le " " (aQ x) w hw
 omega
theorem sw(x:Str):x.length=x.cps.toList.length:=by show x.cps.size=_; simp
theorem sP(x:Str):(Txt.replace x "(" " ( ").length≤3*x.length:=by
 rw [sw,sw,show ("(":Str)=⟨#[40]⟩ from rfl,fS]
 exact gf (fun d=>by by_cases h:d=40 <;> simp [h]; decide) _
theorem sO(x:Str):(Txt.replace x ")" " ) ").length≤3*x.length:=by
 rw [sw,sw,show (")":Str)=⟨#[41]⟩ from rfl,fS]
 exact gf (fun d=>by by_cases h:d=41 <;> simp [h]; decide) _
theorem gl{α:Type}(l:List α)(x:α):atI (l++[x]) (-1)=some x:=by
 unfold atI ixN
 have h:¬ ((0:Int)≤-1):=by decide
 rw [if_neg h]
 simp
 rw [if_pos (by omega)]
 have e:(-1+((l.length:Int)+1)).toNat=l.length:=by omega
 simp [e]
section
abbrev aY:Stmt:=top 29
theorem zcs:aj ["text","rows","word","row"] ["text"] (ag aY):=⟨rfl,rfl,rfl,by decide +kernel,rfl,by decide +kernel,by decide +kernel⟩
theorem zct:LN .globalImplicit aY "NoSaying":=by decide +kernel
theorem zcu:LN .globalImplicit aY "len":=by decide +kernel
theorem zcv:LN .local aY "row":=by decide +kernel
theorem zcw:LN .local aY "rows":=by decide +kernel
theorem zcx:LN .local aY "text":=by decide +kernel
theorem zcy:LN .local aY "word":=by decide +kernel
inductive spBrE(N:Addr)(vs:List V)(H:Hp)(Q:VK)(E:XK):Prop | mk (x:Str) (_:vs=[.str x]) (_:x.length≤100000) (_:(∀ t,brk x=some t→∀ u H',Rd0 H' u (lsD t)→Same H H'→Q u H')) (_:(brk x=none→∀ H',Same H H'→E (.ref N) none H'))
theorem y7{N:Addr}(F:ah K mg "bracketed" aY ["text"])(Z:Bl mg)(O_NoSaying:cw K mg "NoSaying" N):aU P w K mg base "bracketed" 1 ["text"] (spBrE N):=by
 have SC:=zcs
 refine F.mkE (k:=0) zcs (fun vs H Q E h=>?_) (fun f cdv A outer s H vs Q E hr h=>?_)
 ·obtain⟨t,rfl,_⟩:=h
  rfl
 ·obtain⟨x,rfl,hl,q,no⟩:=h
  refine'⟨_,?dv,?_⟩
  case dv=>refine' sX (i:=1) (x:=Str.ofString "rows") SC.nd rfl zcw ?Aa ?Ba rfl;(case Aa=>refine' kI ?Ca;case Ca=>refine' aw ?Da be ?Ea;(case Da=>refine' kI be);case Ea=>rfl);case Ba=>refine' qv ?Fa ?Ga;(case Fa=>refine' vW jH rfl ?Ha ?Ia ?Ja ?Ka;(case Ha=>refine' qz ?La rfl rfl;case La=>refine' gR ?Ma rfl rfl;case Ma=>refine' gR ?Na rfl rfl;case Na=>refine' wk (i:=0) (x:=Str.ofString "text") rfl zcx zco);(case Ia=>refine' kG (i:=2) (x:=Str.ofString "word") SC.nd rfl (Or.inl zcy) (.inl rfl));(case Ja=>refine' ba ?Oa;case Oa=>refine' iQ ?Pa ?Qa ?Ra;(case Pa=>refine' bW tU (pq 2 (dn zcy) zcq zcr) ?Sa (iV _);case Sa=>exact eh);(case Qa=>refine' ba ?Ta;case Ta=>refine' ib ?Ua rfl;case Ua=>refine' jG PySem.F.plainAttrs_list PySem.F.slot_list_append PySem.F.type_list_append eK (pq 1 (dn zcw) zcm zcn) ?Va rfl rfl rfl rfl rfl;case Va=>refine' aw ?Wa be ?Xa;(case Wa=>refine' kI be);case Xa=>rfl);case Ra=>refine' ba ?Ya;case Ya=>refine' iQ ?Za ?Ab ?Bb;(case Za=>refine' bW tU (pq 2 (dn zcy) zcq zcr) ?Cb (iV _);case Cb=>exact eh);(case Ab=>refine' cD ?Db ?Eb;(case Db=>refine' iN (i:=3) (x:=Str.ofString "row") ?Fb ?Gb ?Hb ?Ib ?Jb ?Kb;(case Fb=>exact SC.nd);(case Gb=>exact rfl);(case Hb=>exact(Or.inl zcv));(case Ib=>refine' tQ PySem.F.plainAttrs_list PySem.F.slot_list_pop PySem.F.type_list_pop uC (pq 1 (dn zcw) zcm zcn) rfl rfl);(case Jb=>rfl);case Kb=>exact .inl rfl);case Eb=>refine' cD ?Lb ?Mb;(case Lb=>refine' iQ ?Nb ?Ob fU;(case Nb=>refine' kF ?Pb;case Pb=>refine' lI (pq 1 (dn zcw) zcm zcn) ?Qb;case Qb=>intro _;exact rfl);case Ob=>refine' ba ?Rb;case Rb=>refine' iP (hdb:=zch) bq rfl O_NoSaying zct ?Sb rfl rfl;case Sb=>refine' aw ?Tb be ?Ub;(case Tb=>exact eh);case Ub=>rfl);case Mb=>refine' ba ?Vb;case Vb=>refine' ib ?Wb rfl;case Wb=>refine' jG PySem.F.plainAttrs_list PySem.F.slot_list_append PySem.F.type_list_append eK ?Xb ?Yb rfl rfl rfl rfl rfl;(case Xb=>refine' fV ix_list (pq 1 (dn zcw) zcm zcn) ?Zb ?Ac;(case Zb=>refine' tF m7 ?Bc;case Bc=>exact ei);case Ac=>intro _ _;exact rfl);case Yb=>refine' aw (pq 3 (dn zcv) zck zcl) be ?Cc;case Cc=>rfl);case Bb=>refine' ba ?Dc;case Dc=>refine' iQ ?Ec ?Fc fU;(case Ec=>refine' lI (pq 2 (dn zcy) zcq zcr) ?Gc;case Gc=>intro _;exact rfl);case Fc=>refine' ba ?Hc;case Hc=>refine' ib ?Ic rfl;case Ic=>refine' jG PySem.F.plainAttrs_list PySem.F.slot_list_append PySem.F.type_list_append eK ?Jc ?Kc rfl rfl rfl rfl rfl;(case Jc=>refine' fV ix_list (pq 1 (dn zcw) zcm zcn) ?Lc ?Mc;(case Lc=>refine' tF m7 ?Nc;case Nc=>exact ei);case Mc=>intro _ _;exact rfl);case Kc=>refine' aw (pq 2 (dn zcy) zcq zcr) be ?Oc;case Oc=>rfl);case Ka=>intro _; rfl);case Ga=>refine' cD ?Pc ?Qc;(case Pc=>refine' iQ ?Rc ?Sc fU;(case Rc=>refine' PW.pt ?Tc;case Tc=>refine' sV ?Uc ?Vc;(case Uc=>refine' bW tS ?Wc ?Xc (iV _);(case Wc=>refine' bo (hn:=zcj) (hdb:=zci) dU zcu Z.n_len ji ?Yc rfl rfl;case Yc=>refine' aw (pq 1 (dn zcw) zcm zcn) be ?Zc;case Zc=>rfl);case Xc=>exact ei);case Vc=>refine' nN ?Ad;case Ad=>refine' bW tS ?Bd ?Cd (iV _);(case Bd=>refine' bo (hn:=zcj) (hdb:=zci) dU zcu Z.n_len ji ?Dd rfl rfl;case Dd=>refine' aw ?Ed be ?Fd;(case Ed=>refine' fV ix_list (pq 1 (dn zcw) zcm zcn) ?Gd ?Hd;(case Gd=>exact ei);case Hd=>intro _ _;exact rfl);case Fd=>rfl);case Cd=>exact ei);case Sc=>refine' ba ?Id;case Id=>refine' iP (hdb:=zch) bq rfl O_NoSaying zct ?Jd rfl rfl;case Jd=>refine' aw ?Kd be ?Ld;(case Kd=>exact eh);case Ld=>rfl);case Qc=>refine' ba ?Md;case Md=>refine' iO ?Nd;case Nd=>refine' fV ix_list ?Od ?Pd ?Qd;(case Od=>refine' fV ix_list (pq 1 (dn zcw) zcm zcn) ?Rd ?Sd;(case Rd=>exact ei);case Sd=>intro _ _;exact rfl);(case Pd=>exact ei);case Qd=>intro _ _;exact rfl
  have r1:=sP x
  have r2:=sO (Txt.replace x "(" " ( ")
  have l3:(" ( ":Str).length=3:=rfl
  have l4:(" ) ":Str).length=3:=rfl
  obtain⟨wl,wl2⟩:=qb x hl
  have rg:=rO x
  have bk:brk x=mQ (run (aQ x) [[]]):=by rw [rg]; rfl
  refine⟨by show 0≤sizeLine; decide,fun a0 ha0=>⟨by show 1≤sizeLine; decide,fun D hD=>?_⟩⟩
  refine⟨_,rfl,x,rfl,by rw [l3]; omega,by decide +kernel,_,rfl,by rw [l4]; omega,by decide +kernel,_,rfl,by decide +kernel,YI (show _≤900000 by omega) (by decide),Yn wl (by decide),fun L hL=>?_⟩
  have s1:=ad ha0 (.lst [])
  have s2:=ad hD (.lst [.ref a0])
  have s3:=ad hL (.lst ((aQ x).map V.str))
  have hLH:H L=none:=(s1.trans s2).free hL
  have nLD:L≠D:=by rintro rfl; rw [aa] at hL; cases hL
  have nLa:L≠a0:=by rintro rfl; rw [s2 _ _ aa] at hL; cases hL
  have nDa:D≠a0:=by rintro rfl; rw [aa] at hD; cases hD
  have sx:Same H (upd H L (.lst ((aQ x).map V.str))):=ad hLH _
  have R0:bN .lst (upd H L (.lst ((aQ x).map V.str))) (upd (upd (upd H a0 (.lst [])) D (.lst [.ref a0])) L (.lst ((aQ x).map V.str))) D [a0] [[]]:=by
   refine⟨fun c o e=>?_,by rw [ac (Ne.symm nLD)]; exact s1.free hD,fun a ha=>?_,by simp [nDa],by rw [ac (Ne.symm nLD)]; exact aa,.cons ⟨[],?_,.nil⟩ .nil⟩
   ·by_cases hc:c=L
    ·subst hc; rw [aa] at e ⊢; exact e
    ·rw [ac hc] at e ⊢
     exact s2 _ _ (s1 _ _ e)
   ·rw [Yp.mp ha,ac (Ne.symm nLa)]; exact ha0
   ·rw [ac (Ne.symm nLa),ac (Ne.symm nDa)]; exact aa
  generalize (upd (upd (upd H a0 (.lst [])) D (.lst [.ref a0])) L (.lst ((aQ x).map V.str)))=H3 at R0
  have run0:run ((aQ x).take 0) [[]]=some [[]]:=by rw [List.take_zero]; rfl
  refine ge (K:=K) (a:=L) (xs:=(aQ x).map V.str) (fun i σ H2=>∃ (as:List Addr) (st:List (List Tr)) (v2 v3:Option V),σ=[some (.str x),some (.ref D),v2,v3]∧run ((aQ x).take i) [[]]=some st∧bN .lst (upd H L (.lst ((aQ x).map V.str))) H2 D as st∧(st.map List.length).sum+st.length≤i+1∧st≠[])
   ⟨[a0],[[]],_,_,rfl,run0,R0,by decide,by simp⟩ (by rintro i σ H2 _ ⟨_,_,_,_,_,_,y,_,_⟩;exact SqL.of (y.same _ _ aa)) ?_ ?_
  ·rintro i y σ H2 hi ⟨as,st,v2,v3,rfl,hrun,ro,hb,sn⟩
   rw [YB] at hi
   obtain⟨wrd,hw,rfl⟩:=Yx.mp hi
   have e3:=lG hw hrun
   have stop:=sI hw hrun
   have hil:i<(aQ x).length:=(Yv.mp hw).1
   have al:as.length=st.length:=Paired.length ro.rows
   have dl:(as.reverse.map V.ref).length<sizeLine:=YI (show _≤900002 by rw [Yh,List.length_reverse]; omega) (by decide)
   unfold stp at e3 stop
   by_cases h1:wrd="("
   ·rw [if_pos h1] at e3
    refine⟨_,rfl,rfl,_,rfl,ifT (decide_eq_true (by rw [h1])) ?_⟩
    exact⟨_,rfl,.inl ⟨rfl,_,SqL.of ro.d⟩,by show 0≤sizeLine; decide,fun p hp=>⟨D,_,_,rfl,rfl,by rw [ac (ae ro.d hp)]; exact ro.d,dl,p::as,_,_,_,rfl,e3,ro.push hp,by simp; omega,by simp⟩⟩
   rw [if_neg h1] at e3 stop
   refine⟨_,rfl,rfl,_,rfl,ifF (by simp; exact h1) ?_⟩
   by_cases h2:wrd=")"
   ·rw [if_pos h2] at e3 stop
    refine⟨_,rfl,rfl,_,rfl,ifT (decide_eq_true (by rw [h2])) ?_⟩
    match st,e3,stop,ro,hb,al,sn with
    | [],_,_,_,_,_,sn=>exact absurd rfl sn
    | [_],_,stop,ro,_,al,_=>
     match as,ro,al with
     | [a],ro,_=>
      have d':H2 D=some (.lst ([]++[V.ref a])):=ro.d
      refine⟨_,rfl,.inl ⟨rfl,_,SqL.of d'⟩,D,_,.ref a,rfl,rfl,d',by simp,?_⟩
      rw [List.dropLast_concat]
      refine⟨_,rfl,false,.inl ⟨_,SqL.of aa,rfl⟩,uN ?_⟩
      exact⟨by show 1≤sizeLine; decide,no (by rw [bk,stop rfl]; rfl) _ (fun c o e=>by rw [ac (ae (sx _ _ e) ro.fd)]; exact ro.same _ _ (sx _ _ e))⟩
    | r::q'::rest,e3,_,ro,hb,al,_=>
     match as,ro,al,dl with
     | [],_,al,_=>simp at al
     | [_],_,al,_=>simp at al
     | a::b::as',ro,al,dl=>
      have nd:=YH.mp ro.nd
      have bD:b≠D:=fun e=>nd.1 (by rw [← e]; exact Yj _ Yl)
      obtain⟨ys,ey,my⟩:∃ ys,H2 b=some (.lst ys)∧ys.length=q'.length:=by
       have:=ro.rows
       cases this with
       | cons f t2=>
       cases t2 with
       | cons g t3=>
        obtain⟨zs,ez,mz⟩:=g
        exact⟨zs,ez,mz.length⟩
      have exs:(a::b::as').reverse.map V.ref=(b::as').reverse.map V.ref++[V.ref a]:=by rw [Xj,Yz]; rfl
      have exb:(b::as').reverse.map V.ref=as'.reverse.map V.ref++[V.ref b]:=by rw [Xj,Yz]; rfl
      have d':H2 D=some (.lst ((b::as').reverse.map V.ref++[V.ref a])):=by rw [← exs]; exact ro.d
      refine⟨_,rfl,.inl ⟨rfl,_,SqL.of d'⟩,D,_,.ref a,rfl,rfl,d',by simp,?_⟩
      rw [List.dropLast_concat]
      refine⟨_,rfl,true,.inl ⟨_,SqL.of aa,by rw [exb]; simp⟩,cX ?_⟩
      have eb:(upd H2 D (.lst ((b::as').reverse.map V.ref))) b=some (.lst ys):=by rw [ac bD]; exact ey
      simp only [YA,YW,Ys] at hb
      exact⟨_,rfl,1,rfl,D,_,-1,.ref b,rfl,rfl,SqL.of aa,by rw [exb]; exact gl _ _,.inl ⟨rfl,_,SqL.of eb⟩,_,rfl,b,ys,_,rfl,rfl,eb,YI (show ys.length≤900002 by omega) (by decide),b::as',_,_,_,rfl,e3,ro.pop ey,by simp only [YA,YW,Ys,Yw,YR]; omega,by simp⟩
   rw [if_neg h2] at e3
   refine⟨_,rfl,rfl,_,rfl,ifF (by simp; exact h2) ?_⟩
   by_cases h3:wrd=Str.empty
   ·rw [if_pos h3] at e3
    subst h3
    exact⟨_,rfl,false,⟨by decide,rfl⟩,cX ⟨as,st,_,_,rfl,e3,ro,by omega,sn⟩⟩
   ·rw [if_neg h3] at e3
    match st,e3,ro,hb,al,sn with
    | [],_,_,_,_,sn=>exact absurd rfl sn
    | r::rest,e3,ro,hb,al,_=>
     match as,ro,al,dl with
     | [],_,al,_=>simp at al
     | a::as',ro,al,dl=>
      obtain⟨ys,ey,my⟩:∃ ys,H2 a=some (.lst ys)∧ys.length=r.length:=by
       have:=ro.rows
       cases this with
       | cons f t2=>
        obtain⟨zs,ez,mz⟩:=f
        exact⟨zs,ez,mz.length⟩
      have exb:(a::as').reverse.map V.ref=as'.reverse.map V.ref++[V.ref a]:=by rw [Xj,Yz]; rfl
      have wlen:wrd.length≤sizeLine:=Yn (wl2 wrd (YD hw)) (by decide)
      have wne:((wrd.length:Int) != 0)=true:=by
       have : wrd.length≠0:=fun z=>h3 (gs (by rw [sw] at z; rw [List.length_eq_zero_iff.mp z]; rfl))
       simp; omega
      simp only [YA,YW,Ys] at hb
      refine⟨_,rfl,true,⟨wlen,wne.symm⟩,ifT rfl ?_⟩
      exact⟨_,rfl,1,rfl,D,_,-1,.ref a,rfl,rfl,SqL.of ro.d,by rw [exb]; exact gl _ _,.inl ⟨rfl,_,SqL.of ey⟩,_,rfl,a,ys,_,rfl,rfl,ey,YI (show ys.length≤900002 by omega) (by decide),a::as',(r++[Tr.leaf wrd])::rest,_,_,rfl,e3,ro.add ey,by simp only [YA,YW,Ys,Yw,YR]; omega,by simp⟩
  ·rintro σ H2 ⟨as,st,v2,v3,rfl,hrun,ro,hb,sn⟩
   rw [Yh,YQ] at hrun
   rw [hrun] at bk
   have d1:=ro.d
   have al:as.length=st.length:=Paired.length ro.rows
   refine⟨_,rfl,D,_,rfl,.inl (SqL.of d1),rfl,_,rfl,?_⟩
   by_cases h1:st.length=1
   rotate_left
   ·refine ifT (by simp; omega) (ifT rfl ⟨by show 1≤sizeLine; decide,no ?_ _ (sx.trans ro.same)⟩)
    rw [bk,ig]
    rintro t rfl
    exact h1 rfl
   obtain⟨r,rfl⟩:=Few.le1 h1
   obtain⟨a,rfl⟩:=Few.le1 al
   have:=ro.rows
   cases this with
   | cons f t2=>
    cases t2
    obtain⟨xs,ex,mx⟩:=f
    have xl:=mx.length
    refine ifF (by simp) ?_
    refine⟨_,rfl,D,_,0,_,rfl,rfl,SqL.of d1,rfl,_,_,rfl,.inl (SqL.of ex),rfl,_,rfl,?_⟩
    by_cases h2:r.length=1
    rotate_left
    ·refine ifT (by simp; omega) ⟨by show 1≤sizeLine; decide,no ?_ _ (sx.trans ro.same)⟩
     rw [bk,ig]
     intro t e
     cases e
     exact h2 rfl
    cases mx with
    | nil=>simp at h2
    | @cons v0 vs0 t0 ts0 m0 m1=>
    cases m1 with
    | cons _ _=>simp at h2
    | nil=>
     refine ifF (by simp) ?_
     exact⟨_,rfl,D,_,0,_,rfl,rfl,SqL.of d1,rfl,_,_,0,_,rfl,rfl,SqL.of ex,rfl,q t0 bk _ H2 (pE m0) (sx.trans ro.same)⟩
end
section
abbrev dr:Stmt:=top 28
theorem zcz:aj ["signs","text","saying"] lD4 (ag dr):=by walk_at "F"
def cj(ks:List Str)(ts:List ar)(fs:List am)(x:Str):Option Tr:=
 match brk x with
 | some t=>if bZ ks ts fs (lsD t) S0&&decide (wr t=x) then some t else none
 | none=>none
inductive spReadE(C N:Addr)(vs:List V)(H:Hp)(Q:VK)(E:XK):Prop | mk (g:Addr) (v:V) (ks:List Str) (ts:List ar) (fs:List am) (_:vs=[.ref g,v]) (_:aR C H g ks ts fs) (_:aV ks ts fs) (_:Sh H v) (_:((∀ x,v≠.str x)→∀ H',Same H H'→E (.ref N) none H')) (_:∀ x,v=.str x→x.length≤30000∧Bal 14 x.cps.toList∧(∀ t,cj ks ts fs x=some t→∀ u H',Rd0 H' u (tuD t)→Same H H'→Q u H')∧(cj ks ts fs x=none→∀ H',Same H H'→E (.ref N) none H'))
theorem xG:∀ t:Tr,(wr t).length≤3*wtT t+2:=fun t=>by
 have:=rX (tuD t)
 rw [(gF t).2.2.2] at this
 have e:trD (tuD t)=t:=rY t
 rw [e] at this
 exact this
theorem ud{C N:Addr}(F:ah K mg "read_saying" dr lD4)(Z:Bl mg)(O_NoSaying:cw K mg "NoSaying" N)(D_looked_over:aU P w K mg base "looked_over" 34 lD0 (spLookE C N))(D_written:Def P w K mg base "written" (14+2) lA8 (spWr 14))(D_bracketed:aU P w K mg base "bracketed" 1 ["text"] (spBrE N)):aU P w K mg base "read_saying" 35 lD4 (spReadE C N):=by
 have SC:=zcz
 refine F.mkE (k:=34) zcz (fun vs H Q E h=>?_) (fun f cdv A outer s H vs Q E hr h=>?_)
 ·obtain⟨g,v,ks,ts,fs,rfl,_⟩:=h
  rfl
 ·obtain⟨g,v,ks,ts,fs,rfl,hS,ok,hv,n0,h1⟩:=h
  refine'⟨_,?dv,?_⟩
  case dv=>(have:=af 2 108 11 32; walk_at "S2")
  obtain⟨ty,hty,hk⟩:=hv.isS (K:=K)
  refine⟨_,rfl,_,_,_,rfl,hty,hk,_,rfl,?_⟩
  by_cases hs:∃ x,v=.str x
  rotate_left
  ·have e:cY v=false:=by cases v <;> first | rfl | exact absurd ⟨_,rfl⟩ hs
   rw [e]
   exact ifT rfl ⟨by show 1≤sizeLine; decide,n0 (fun x z=>hs ⟨x,z⟩) _ (Same.refl _)⟩
  obtain⟨x,rfl⟩:=hs
  obtain⟨hx,hB,yes,no⟩:=h1 x rfl
  refine ifF (show ¬ (!cY (V.str x))=true from Yt) ?_
  refine⟨_,rfl,_,rfl,x,rfl,by omega,fun t ht v H1 hm s1=>?_,fun hb=>no (by unfold cj; rw [hb])⟩
  have dt:=ie ht hB
  have wt:=kZ ht
  obtain⟨l1,l2,l3,l4⟩:=gF t
  have rd:cj ks ts fs x=if bZ ks ts fs (lsD t) S0&&decide (wr t=x) then some t else none:=by unfold cj; rw [ht]
  refine⟨g,v,ks,ts,fs,lsD t,rfl,hS.same s1,ok,hm,by omega,by omega,fun hy u H2 tu s2=>?_,fun hy H' s'=>no (by rw [rd,hy]; rfl) H' (s1.trans s')⟩
  rw [rS] at tu
  have ww:=xG t
  refine⟨_,rfl,u,t,rfl,nM tu,dt,by omega,fun H3 s3=>?_⟩
  have s03:=(s1.trans s2).trans s3
  refine⟨_,rfl,rfl,_,rfl,?_⟩
  by_cases hw:wr t=x
  ·refine ifF (by simp [hw]) ⟨_,rfl,yes t (by rw [rd,hy,decide_eq_true hw]; rfl) u H3 (Rd0.same tu s3) s03⟩
  ·refine ifT (by simp [hw]) ⟨by show 1≤sizeLine; decide,no (by rw [rd,hy,decide_eq_false hw]; rfl) _ s03⟩
end
theorem pJ:∀ (u w r:List Nat) (st:List (List Tr)),pM u→go w (u++r) st=go (w++u) r st
 | [],w,r,st,_=>by rw [Xu,YS]
 | c::u,w,r,st,h=>by
  obtain⟨h1,h2,h3⟩:=h c Yl
  rw [List.cons_append,go,if_neg h2,if_neg h3,if_neg h1,pJ u _ r st (fun d hd=>h d (Yj _ hd)),YM]
  rfl
abbrev iC(c:Nat):Prop:=c=32∨c=40∨c=41
theorem zm(w r:List Nat)(st:List (List Tr))(h:∀ c,r.head? = some c→iC c):go w r st=go [] r (flu w st):=by
 have f0:∀ s,flu [] s=s:=fun s=>rfl
 match r,h with
 | [],_=>rfl
 | c::r,h=>
  rw [go,go,f0]
  rcases h c rfl with rfl | rfl | rfl
  ·rw [if_neg (by decide),if_neg (by decide),if_pos rfl,if_neg (by decide),if_neg (by decide),if_pos rfl]
  ·rw [if_pos rfl,if_pos rfl]
  ·rw [if_neg (by decide),if_pos rfl,if_neg (by decide),if_pos rfl]
theorem zA{c:Bool}{A B:Prop}(h:B)(k:c=true→B→A):if c=true then A else B:=by
 cases c
 ·exact ifF (by decide) h
 ·exact ifT rfl (k rfl h)
def NsI(x:Str)(H0:Hp)(D:Addr)(i:Nat)(σ:St)(H2:Hp):Prop:=∃ (as:List Addr) (st:List (List Tr)) (v3 v4 v5:Option V),σ=[some (.str x),some (.ref D),some (.int i),v3,v4,v5]∧i≤x.length∧go [] (x.cps.toList.drop i) st=go [] x.cps.toList [[]]∧bN .tup H0 H2 D as st∧(st.map List.length).sum+st.length≤i+1∧st≠[]
theorem xp{l:List Nat}{i c:Nat}(h:l[i]? = some c):l.drop i=c::l.drop (i+1):=by
 obtain⟨h1,h2⟩:=Yv.mp h
 rw [Xe h1,h2]
section
abbrev dO:Stmt:=top 55
theorem zc0:aj ["_law_text","_law_rows","_law_at","_law_sign_here","_law_row","_law_end"] lD6 (ag dO):=by walk_at "F"
inductive spNest(vs:List V)(H:Hp)(Q:VK)(e3_:XK):Prop | mk (x:Str) (_:vs=[.str x]) (_:x.length≤100000) (_:(∀ t,brk x=some t→∀ u H',Rd0 H' u (tuD t)→Same H H'→Q u H')) (_:(brk x=none→∀ H',Same H H'→Q .non H'))
theorem wN(F:ah K mg "_law_nested" dO lD6)(Z:Bl mg):Def P w K mg base "_law_nested" 1 lD6 spNest:=by
 have SC:=zc0
 refine F.mk' (k:=0) zc0 (fun vs H Q E h=>?_) (fun f cdv A outer s H vs Q E hr h=>?_)
 ·obtain⟨x,rfl,_⟩:=h
  rfl
 ·obtain⟨x,rfl,hl,q,no⟩:=h
  refine'⟨_,?dv,?_⟩
  case dv=>(have:=af 4 269 20 34; have:=af 29 270 25 43; have:=af 30 284 48 80; have:=af 31 286 33 60; have:=af 4 284 29 43; have:=af 29 284 48 67; have:=af 32 284 48 80; walk_at "S2")
  refine⟨by show 0≤sizeLine; decide,fun a0 ha0=>⟨by show 1≤sizeLine; decide,fun D hD=>?_⟩⟩
  have hxs:x.length≤sizeLine:=Yn hl (by decide)
  have xl:x.cps.toList.length=x.length:=by simp [Str.length]
  have s1:=ad ha0 (.lst [])
  have s2:=ad hD (.lst [.ref a0])
  have nDa:D≠a0:=by rintro rfl; rw [aa] at hD; cases hD
  have R0:bN .tup H (upd (upd H a0 (.lst [])) D (.lst [.ref a0])) D [a0] [[]]:=by
   refine⟨s1.trans s2,s1.free hD,fun a ha=>by rw [Yp.mp ha]; exact ha0,by simp [nDa],aa,.cons ⟨[],?_,.nil⟩ .nil⟩
   rw [ac (Ne.symm nDa)]; exact aa
  generalize (upd (upd H a0 (.lst [])) D (.lst [.ref a0]))=H1 at R0
  refine⟨fun m σ H2=>∃ i,m=x.length-i∧NsI x H D i σ H2,⟨x.length,0,rfl,[a0],[[]],_,_,_,rfl,Yy _,rfl,R0,by decide,by simp⟩,?_⟩
  rintro m σ H2 ⟨i,rfl,as,st,v3,v4,v5,rfl,hi,hg,ro,hb,sn⟩
  have al:as.length=st.length:=Paired.length ro.rows
  refine⟨_,rfl,_,rfl,x,rfl,hxs,_,_,rfl,rfl,_,rfl,?_⟩
  by_cases hlt:i<x.length
  rotate_left
  ·have hi':i=x.length:=by omega
   rw [hi',Y6 (by omega)] at hg
   have bk:brk x=mQ (some st):=by unfold brk; rw [← hg]; rfl
   have d1:=ro.d
   refine ifF (by simp; omega) ?_
   refine⟨_,rfl,D,_,rfl,.inl (SqL.of d1),rfl,_,rfl,?_⟩
   by_cases h1:st.length=1
   rotate_left
   ·refine ifF (by simp; omega) (ifF (by decide) (no ?_ _ ro.same))
    rw [bk,ig]
    rintro t rfl
    exact h1 rfl
   obtain⟨r,rfl⟩:=Few.le1 h1
   obtain⟨a,rfl⟩:=Few.le1 al
   have:=ro.rows
   cases this with
   | cons f t2=>
    cases t2
    obtain⟨xs,ex,mx⟩:=f
    have xl:=mx.length
    refine ifT (by simp) ?_
    refine⟨_,rfl,D,_,0,_,rfl,rfl,SqL.of d1,rfl,_,_,rfl,.inl (SqL.of ex),rfl,_,rfl,?_⟩
    by_cases h2:r.length=1
    rotate_left
    ·refine ifF (by simp; omega) (no ?_ _ ro.same)
     rw [bk,ig]
     intro t e
     cases e
     exact h2 rfl
    cases mx with
    | nil=>simp at h2
    | @cons v0 vs0 t0 ts0 m0 m1=>
    cases m1 with
    | cons _ _=>simp at h2
    | nil=>
     refine ifT (by simp) ?_
     exact⟨_,rfl,D,_,0,_,rfl,rfl,SqL.of d1,rfl,_,_,0,_,rfl,rfl,SqL.of ex,rfl,q t0 bk _ H2 (pC m0) ro.same⟩
  refine ifT (by simp; exact hlt) ⟨fun σ' H'=>∃ j,i<j∧NsI x H D j σ' H',fun σ' H' ⟨j,hj,h⟩=>⟨x.length-j,by obtain⟨_,_,_,_,_,_,hh,_⟩:=id h; omega,j,rfl,h⟩,?_⟩
  obtain⟨c,hc⟩:∃ c,x.cps.toList[i]? = some c:=⟨_,Xg (by omega)⟩
  have hg0:=hg
  rw [xp hc,go] at hg
  refine⟨_,rfl,_,rfl,x,i,c,rfl,rfl,hxs,gj hc,?_⟩
  have ec:∀ d,(V.str ⟨#[c]⟩=V.str ⟨#[d]⟩)↔c=d:=fun d=>⟨fun e=>by simpa using e,fun e=>by rw [e]⟩
  have dl:(as.reverse.map V.ref).length<sizeLine:=YI (show _≤900002 by rw [Yh,List.length_reverse]; omega) (by decide)
  by_cases h1:c=40
  ·rw [if_pos h1] at hg
   refine⟨_,rfl,rfl,_,rfl,ifT (decide_eq_true ((ec 40).mpr h1)) ?_⟩
   refine⟨_,rfl,.inl ⟨rfl,_,SqL.of ro.d⟩,by show 0≤sizeLine; decide,fun p hp=>⟨D,_,_,rfl,rfl,by rw [ac (ae ro.d hp)]; exact ro.d,dl,?_⟩⟩
   exact⟨_,rfl,_,_,rfl,rfl,i+1,Y8 i,p::as,[]::st,_,_,_,rfl,hlt,hg,ro.push hp,by simp; omega,by simp⟩
  rw [if_neg h1] at hg
  refine⟨_,rfl,rfl,_,rfl,ifF (fun e=>h1 ((ec 40).mp (of_decide_eq_true e))) ?_⟩
  by_cases h2:c=41
  ·rw [if_pos h2,show flu [] st=st from rfl] at hg
   refine⟨_,rfl,rfl,_,rfl,ifT (decide_eq_true ((ec 41).mpr h2)) ?_⟩
   refine⟨_,rfl,D,_,rfl,.inl (SqL.of ro.d),_,_,rfl,rfl,_,rfl,?_⟩
   match st,hg,ro,hb,al,sn with
   | [],_,_,_,_,sn=>exact absurd rfl sn
   | [_],hg,ro,_,al,_=>
    refine ifT (by simp; simp at al; omega) ?_
    exact no (by unfold brk; rw [← hg]; rfl) _ ro.same
   | r::q'::rest,hg,ro,hb,al,_=>
    refine ifF (by simp; simp at al; omega) ?_
    match as,ro,al,dl with
    | [],_,al,_=>simp at al
    | [_],_,al,_=>simp at al
    | a::b::as',ro,al,dl=>
     have nd:=YH.mp ro.nd
     have bD:b≠D:=fun e=>nd.1 (by rw [← e]; exact Yj _ Yl)
     have aD:a≠D:=fun e=>nd.1 (by rw [← e]; exact Yl)
     obtain⟨xs,ex,ys,ey,my⟩:∃ xs,H2 a=some (.lst xs)∧∃ ys,H2 b=some (.lst ys)∧ys.length=q'.length:=by
      have:=ro.rows
      cases this with
      | cons f t2=>
      cases t2 with
      | cons g t3=>
       obtain⟨ws,ew,mw⟩:=f
       obtain⟨zs,ez,mz⟩:=g
       exact⟨ws,ew,zs,ez,mz.length⟩
     have exs:(a::b::as').reverse.map V.ref=(b::as').reverse.map V.ref++[V.ref a]:=by rw [Xj,Yz]; rfl
     have exb:(b::as').reverse.map V.ref=as'.reverse.map V.ref++[V.ref b]:=by rw [Xj,Yz]; rfl
     have d':H2 D=some (.lst ((b::as').reverse.map V.ref++[V.ref a])):=by rw [← exs]; exact ro.d
     refine⟨_,rfl,.inl ⟨rfl,_,SqL.of d'⟩,D,_,.ref a,rfl,rfl,d',by simp,?_⟩
     rw [List.dropLast_concat]
     have ea:(upd H2 D (.lst ((b::as').reverse.map V.ref))) a=some (.lst xs):=by rw [ac aD]; exact ex
     have eb:(upd H2 D (.lst ((b::as').reverse.map V.ref))) b=some (.lst ys):=by rw [ac bD]; exact ey
     simp only [YA,YW,Ys] at hb
     refine⟨_,rfl,1,rfl,D,_,-1,.ref b,rfl,rfl,SqL.of aa,by rw [exb]; exact gl _ _,.inl ⟨rfl,_,SqL.of eb⟩,?_⟩
     refine⟨_,rfl,a,xs,rfl,.inl ⟨SqL.of ea,fun p hp=>?_⟩⟩
     have hp2:H2 p=none:=by
      by_cases e:p=D
      ·subst e; rw [aa] at hp; cases hp
      ·rwa [ac e] at hp
     refine⟨b,ys,_,rfl,rfl,by rw [ac (ae eb hp)]; exact eb,YI (show ys.length≤900002 by omega) (by decide),?_⟩
     exact⟨_,rfl,_,_,rfl,rfl,i+1,Y8 i,b::as',(q'++[Tr.node r])::rest,_,_,_,rfl,hlt,hg,ro.popT ex ey hp2,by simp only [YA,YW,Ys,Yw,YR]; omega,by simp⟩
  rw [if_neg h2] at hg
  refine⟨_,rfl,rfl,_,rfl,ifF (fun e=>h2 ((ec 41).mp (of_decide_eq_true e))) ?_⟩
  by_cases h3:c=32
  ·rw [if_pos h3,show flu [] st=st from rfl] at hg
   refine⟨_,rfl,rfl,_,rfl,ifT (decide_eq_true ((ec 32).mpr h3)) ?_⟩
   exact⟨_,rfl,_,_,rfl,rfl,i+1,Y8 i,as,st,_,_,_,rfl,hlt,hg,ro,by omega,sn⟩
  rw [if_neg h3] at hg
  refine⟨_,rfl,rfl,_,rfl,ifF (fun e=>h3 ((ec 32).mp (of_decide_eq_true e))) ?_⟩
  refine⟨_,rfl,?_⟩
  refine⟨fun m σ H3=>∃ e:Nat,m=x.length-e∧σ=[some (.str x),some (.ref D),some (.int i),some (.str ⟨#[c]⟩),v4,some (.int e)]∧H3=H2∧i≤e∧e≤x.length∧pM ((x.cps.toList.drop i).take (e-i)),⟨_,i,rfl,rfl,rfl,Yg _,hi,by rw [Nat.sub_self,List.take_zero]; exact fun _ z=>nomatch z⟩,?_⟩
  rintro m σ H3 ⟨e,rfl,rfl,rfl,hie,hel,hfr⟩
  refine⟨_,rfl,_,rfl,x,rfl,hxs,_,_,rfl,rfl,_,rfl,?_⟩
  have hin:∀ d,x.cps.toList[e]? = some d→(!(!(Builtin.Str.occurrences ("() ":Str) ⟨#[d]⟩ 0 ("() ":Str).length 1).isEmpty))=decide (¬ iC d):=fun d _=>by
   rw [StrLaws.found_one,show ("() ":Str).cps.toList=[40,41,32] from rfl]
   by_cases h:iC d
   ·rw [decide_eq_false (not_not_intro h),decide_eq_true (by rcases h with h | h | h <;> simp [h])]; rfl
   ·rw [decide_eq_true h,decide_eq_false (fun z=>h (by simp at z; unfold iC; omega))]; rfl
  by_cases hgo:∃ d,x.cps.toList[e]? = some d∧¬ iC d
  ·obtain⟨d,hd,hsd⟩:=hgo
   have hel':=(Yv.mp hd).1
   refine ifT (by simp; omega) ?_
   refine⟨_,rfl,_,rfl,x,e,d,rfl,rfl,hxs,gj hd,_,_,rfl,rfl,_,rfl,?_⟩
   rw [hin d hd,decide_eq_true hsd]
   refine ifT rfl ⟨fun σ' H'=>H'=H3∧σ'=[some (.str x),some (.ref D),some (.int i),some (.str ⟨#[c]⟩),v4,some (.int (e+1:Nat))],fun σ' H' ⟨h1,h2⟩=>⟨x.length - (e+1),by omega,e+1,rfl,h2,h1,by omega,by omega,?_⟩,⟨_,rfl,_,_,rfl,rfl,rfl,rfl⟩⟩
   rw [show e+1-i=(e-i)+1 by omega,YL,List.getElem?_drop,show i+(e-i)=e by omega,hd]
   intro d' hd'
   rcases YN.mp hd' with z | z
   ·exact hfr d' z
   ·simp at z
    subst z
    unfold iC at hsd
    omega
  have hne:i<e:=by
   rcases Nat.lt_or_ge i e with h | h
   ·exact h
   ·obtain rfl:i=e:=by omega
    exact absurd ⟨c,hc,by unfold iC; omega⟩ hgo
  refine zA (ifF (by decide) ?_) fun hlt2 hB=>?_
  ·match st,hg0,ro,hb,al,sn with
   | [],_,_,_,_,sn=>exact absurd rfl sn
   | r::rest,hg0,ro,hb,al,_=>
    match as,ro,al,dl with
    | [],_,al,_=>simp at al
    | a::as',ro,al,dl=>
     obtain⟨ys,ey,my⟩:∃ ys,H3 a=some (.lst ys)∧ys.length=r.length:=by
      have:=ro.rows
      cases this with
      | cons f t2=>
       obtain⟨zs,ez,mz⟩:=f
       exact⟨zs,ez,mz.length⟩
     have exb:(a::as').reverse.map V.ref=as'.reverse.map V.ref++[V.ref a]:=by rw [Xj,Yz]; rfl
     simp only [YA,YW,Ys] at hb
     refine⟨_,rfl,1,rfl,D,_,-1,.ref a,rfl,rfl,SqL.of ro.d,by rw [exb]; exact gl _ _,.inl ⟨rfl,_,SqL.of ey⟩,_,rfl,_,rfl,_,rfl,_,rfl,_,rfl,x,rfl,hxs,a,ys,_,rfl,rfl,ey,YI (show ys.length≤900002 by omega) (by decide),?_⟩
     have es:Txt.slice x (some (i:Int)) (some (e:Int))=sT ((x.cps.toList.drop i).take (e-i)):=gs (by rw [dB,kz])
     rw [es]
     refine⟨_,rfl,e,hne,a::as',(r++[Tr.leaf (sT ((x.cps.toList.drop i).take (e-i)))])::rest,_,_,_,rfl,hel,?_,ro.add ey,by simp only [YA,YW,Ys,Yw,YR]; omega,by simp⟩
     rw [← hg0]
     have ed:x.cps.toList.drop i=(x.cps.toList.drop i).take (e-i)++x.cps.toList.drop e:=by
      rw [show x.cps.toList.drop e=(x.cps.toList.drop i).drop (e-i) by rw [List.drop_drop]; congr 1; omega,Y4]
     conv=>rhs; rw [ed]
     rw [pJ _ _ _ _ hfr,Xu,zm ((x.cps.toList.drop i).take (e-i)) (x.cps.toList.drop e)]
     ·congr 1
      unfold flu
      rw [if_neg]
      ·rfl
      ·intro z
       have:=congrArg List.length z
       rw [YV,YY,YR] at this
       omega
     ·intro d hd
      rw [List.head?_drop] at hd
      exact Classical.byContradiction fun n=>hgo ⟨d,hd,n⟩
  ·obtain⟨d,hd⟩:∃ d,x.cps.toList[e]? = some d:=⟨_,Xg (by have:=of_decide_eq_true hlt2; omega)⟩
   refine⟨_,rfl,_,rfl,x,e,d,rfl,rfl,hxs,gj hd,_,_,rfl,rfl,_,rfl,?_⟩
   rw [hin d hd,decide_eq_false (fun n=>hgo ⟨d,hd,n⟩)]
   exact hB
end
theorem qX{K:XC}{a:Addr}{xs:List V}{g:TG}{tb:TS}{D:dJ}{σ:St}{H:Hp}(Pv:Nat→St→Hp→Prop)(h0:Pv 0 σ H)(hl:∀ i σ H,i≤xs.length→Pv i σ H→SqT K H a xs)
  (hs:∀ i x σ H p,xs[i]? = Option.some x→Pv i σ H→H p=none→g (.ref p) σ (upd H p (.tup [.int i,x])) fun σ2 H2=>tb {D with nx:=Pv (i+1),ct:=Pv (i+1),bk:=D.nx} σ2 H2) (hd:∀ σ H,Pv xs.length σ H→D.nx σ H) :
  ∃ W:Nat→Nat→St→Hp→Prop,(∃ m,W 0 m σ H)∧∀ i m σ H,W i m σ H→
   ((vF K a).stop i H∧D.nx σ H)∨((vF K a).go i H∧∃ N:St→Hp→Prop,(∀ σ' H',N σ' H'→∃ m',m'<m∧W (i+1) m' σ' H')∧∀ x H',(vF K a).yld i H x H'→g x σ H' fun σ2 H2=>tb {D with nx:=N,ct:=N,bk:=D.nx} σ2 H2):=by
 refine⟨fun i m σ H=>m=xs.length-i∧i≤xs.length∧Pv i σ H,⟨xs.length,by simp,Yy _,h0⟩,?_⟩
 rintro i m σ H ⟨rfl,hi,p⟩
 have q:=hl i σ H hi p
 by_cases hlt:i<xs.length
 ·refine .inr ⟨⟨xs,xs[i],q,by simp [hlt]⟩,Pv (i+1),fun σ' H' p'=>⟨xs.length - (i+1),by omega,rfl,hlt,p'⟩,fun x H' y=>?_⟩
  obtain⟨r,z,hr,rfl,rfl,hz⟩:=y
  exact hs i z σ _ r (hz _ q) p hr
 ·have e:i=xs.length:=by omega
  subst e
  exact .inl ⟨⟨xs,q,Yg _⟩,hd σ H p⟩
theorem i3:∀ {A B:List Str},A≠[]→B≠[]→(Str.join " " (A++B)).cps.toList=(Str.join " " A).cps.toList++32::(Str.join " " B).cps.toList
 | [],_,h,_=>absurd rfl h
 | [x],b::B,_,_=>bF 32 x b B
 | x::y::r,B,_,hB=>by
  have e:=bF 32 x y (r++B)
  have e2:=bF 32 x y r
  have ih:=i3 (A:=y::r) (B:=B) (by simp) hB
  show (Str.join ⟨#[32]⟩ (x::y::(r++B))).cps.toList=_
  rw [e]
  show x.cps.toList++32::(Str.join " " (y::r++B)).cps.toList=(Str.join ⟨#[32]⟩ (x::y::r)).cps.toList++_
  rw [ih,e2,YM]
  rfl
 | [x],[],_,h=>absurd rfl h
theorem iy{a b:Str}(h:a.cps.toList=b.cps.toList):a=b:=by
 cases a
 cases b
 exact congrArg Str.mk (Array.toList_inj.mp h)
theorem qQ{l:List Str}(x:Str)(h:l≠[]):Str.join " " (l++[x])=Str.join " " l++" "++x:=by
 apply iy
 rw [i3 h (by simp),dH,dH]
 simp
 rfl
theorem kP(l:List Str)(i:Nat):(Str.join " " (l.take i)).length≤(Str.join " " l).length:=by
 by_cases h1:l.take i=[]
 ·rw [h1]; exact Yy _
 by_cases h2:l.drop i=[]
 ·have : l.take i=l:=by have:=Y4 i l; rw [h2,YS] at this; exact this
  rw [this]; exact Yg _
 have:=i3 h1 h2
 rw [Y4] at this
 have e:=congrArg List.length this
 rw [Yw] at e
 rw [eE,eE]
 omega
def acc(ts:List Tr)(i:Nat):Str:=("(":Str)++Str.join " " ((ts.map wr).take i)
theorem lf(ts:List Tr)(i:Nat):(acc ts i).length≤(Str.join " " (ts.map wr)).length+1:=by
 have:=kP (ts.map wr) i
 unfold acc
 rw [aJ]
 have l1:("(":Str).length=1:=rfl
 omega
theorem Az{ts:List Tr}{t:Tr}(h:ts[0]? = some t):acc ts 1=acc ts 0++wr t:=by
 cases ts with
 | nil=>cases h
 | cons a r=>
  simp at h; subst h
  apply iy
  unfold acc
  rw [dH,dH,dH]
  show _=_++[]++_
  rw [YS]
  rfl
theorem Ay{ts:List Tr}{t:Tr}{i:Nat}(h:ts[i]? = some t)(hi:0<i):acc ts (i+1)=acc ts i++" "++wr t:=by
 have hl:i<ts.length:=(Yv.mp h).1
 have e:(ts.map wr).take (i+1)=(ts.map wr).take i++[wr t]:=by
  rw [YL,YB,h]; rfl
 have n:(ts.map wr).take i≠[]:=by
  intro z
  have:=congrArg List.length z
  rw [YV,Yh,YR] at this
  omega
 apply iy
 unfold acc
 rw [e,qQ _ n]
 simp only [dH,YM]
section
abbrev bO:Stmt:=top 56
theorem zc1:aj ["_law_thing","_law_row","_law_k","_law_one"] lA7 (ag bO):=by walk_at "F"
theorem lR(F:ah K mg "_law_written" bO lA7)(Z:Bl mg)(n_enumerate:mg "enumerate"=none)(n:Nat)(D_law_written:Def P w K mg base "_law_written" (n+1) lA7 (jA n)):Def P w K mg base "_law_written" (n+2) lA7 (spWr n):=by
 have SC:=zc1
 refine F.mk' (k:=n+1) zc1 (fun vs H Q E h=>?_) (fun f cdv A outer s H vs Q E hr h=>?_)
 ·obtain⟨v,t,rfl,_⟩:=h
  rfl
 ·obtain⟨v,t,rfl,ht,hn,hw,q⟩:=h
  refine'⟨_,?dv,?_⟩
  case dv=>(have:=af 2 290 7 34; have:=af 13 297 11 25; have:=af 13 296 19 52; have:=af 13 295 23 37; have:=af 33 293 28 49; walk_at "S2")
  cases ht with
  | leaf x=>exact⟨_,rfl,_,_,_,rfl,.str _,iY K,true,rfl,ifT rfl ⟨_,rfl,by have:=q H (Same.refl _); rwa [wr] at this⟩⟩
  | node h r=>
   rename_i a xs ts
   have hd:dep (.node ts)=1+cQ ts:=rfl
   rw [hd] at hn
   obtain⟨m,rfl⟩:∃ m,n=m+1:=⟨n-1,by omega⟩
   rw [ik] at hw
   have rl:=r.length
   refine⟨_,rfl,_,_,false,rfl,.tup h,rfl,false,rfl,cX ?_⟩
   refine⟨_,rfl,a,xs,rfl,SqT.of h,?_⟩
   refine qX (xs:=xs) (fun i σ H2=>∃ (v2 v3:Option V),σ=[some (.ref a),some (.str (acc ts i)),v2,v3]∧Same H H2) ⟨_,_,rfl,Same.refl _⟩ (by rintro i σ H2 _ ⟨_,_,_,z⟩;exact SqT.of (z _ _ h)) ?_ ?_
   ·rintro i y σ H2 p hi ⟨v2,v3,rfl,s2⟩ hp
    obtain⟨t,ht,tt⟩:=r.get hi
    have dt:=jd (YD ht)
    have lt:=join_mem_le " " (ts.map wr) (wr t) (Y7.mpr ⟨t,YD ht,rfl⟩)
    have s3:=s2.trans (ad hp (.tup [.int i,y]))
    refine⟨p,[.int i,y],rfl,SqT.of aa,rfl,?_⟩
    refine⟨_,_,rfl,_,_,rfl,rfl,?_⟩
    have go:∀ (z:Str),acc ts (i+1)=z++wr t→z.length≤1000004→nj
      (tOp (fun x y H Q=>rOp_add_strI x y H Q) (tVar 1) (fM (jA (m+1)) [] E0 (iu (tVar 3) eY))) (cG 1)
      {nx:=fun σ H2=>∃ v2 v3,σ=[some (V.ref a),some (V.str (acc ts (i+1))),v2,v3]∧Same H H2,rt:=Q,bk:=zK (tOp (fun x y H Q=>rOp_add_strI x y H Q) (tVar 1) (tC (V.str (Str.ofString ")")))) {nx:=fun x H'=>Q V.non H',rt:=Q},ct:=fun σ H2=>∃ v2 v3,σ=[some (V.ref a),some (V.str (acc ts (i+1))),v2,v3]∧Same H H2}
      [some (.ref a),some (.str z),some (.int i),some y] (upd H2 p (.tup [.int i,y])):=by
     intro z ez zl
     refine⟨_,rfl,_,rfl,?_⟩
     unfold eY
     refine ly ⟨y,t,rfl,dz (Few.Same.tups s3) tt,by omega,by omega,fun H5 s5=>?_⟩
     have al:=lf ts (i+1)
     rw [ez,aJ] at al
     exact⟨_,_,rfl,rfl,Yn (show z.length+(wr t).length≤1000004 by omega) (by decide),_,_,by rw [ez]; rfl,s3.trans s5⟩
    have ai:=lf ts i
    have l1:(" ":Str).length=1:=rfl
    by_cases h0:0<i
    ·refine⟨_,rfl,_,_,rfl,rfl,_,rfl,ifT (by simp; omega) ?_⟩
     refine⟨_,rfl,_,_,rfl,rfl,Yn (show (acc ts i).length+(" ":Str).length≤1000004 by omega) (by decide),?_⟩
     exact go _ (Ay ht h0) (by rw [aJ]; omega)
    ·have : i=0:=by omega
     subst this
     refine⟨_,rfl,_,_,rfl,rfl,_,rfl,ifF (by simp) ?_⟩
     exact go _ (Az ht) (by omega)
   ·rintro σ H2 ⟨v2,v3,rfl,s2⟩
    have el:(ts.map wr).take xs.length=ts.map wr:=YF (by rw [Yh]; omega)
    have al:=lf ts xs.length
    have l2:(")":Str).length=1:=rfl
    refine⟨_,rfl,_,_,rfl,rfl,Yn (show _+(")":Str).length≤1000004 by omega) (by decide),?_⟩
    have:=q H2 s2
    rw [ke] at this
    unfold acc
    rw [el]
    exact this
theorem y1(F:ah K mg "_law_written" bO lA7):Def P w K mg base "_law_written" 1 lA7 (jA 0):=
 F.mk' (k:=0) zc1 (fun vs H Q E h=>False.elim h) fun f cdv A outer s H vs Q E hr h=>False.elim h
theorem xR(F:ah K mg "_law_written" bO lA7)(Z:Bl mg)(n_enumerate:mg "enumerate"=none):∀ n,Def P w K mg base "_law_written" (n+2) lA7 (spWr n)
 | 0=>lR F Z n_enumerate 0 (y1 F)
 | n+1=>lR F Z n_enumerate (n+1) (xR F Z n_enumerate n)
end
abbrev BkR(H:Hp)(b:Addr)(ks:List Str)(ts:List ar)(fs:List am):Prop:=RdV Any H (.ref b) (pV ks ts fs)
theorem BkR.same{H H':Hp}{b:Addr}{ks:List Str}{ts:List ar}{fs:List am}(h:BkR H b ks ts fs)(s:Same H H'):BkR H' b ks ts fs:=RdV.mono (fun _ z=>z) (fun a o _ e=>s a o e) h
theorem BkR.open{H:Hp}{b:Addr}{ks:List Str}{ts:List ar}{fs:List am}(h:BkR H b ks ts fs):∃ k t f tv fv,H b=some (.tup [.ref k,.ref t,.ref f])∧H k=some (.lst (ks.map V.str))∧H t=some (.lst tv)∧RdA Any H tv (ts.map lr)∧H f=some (.lst fv)∧RdA Any H fv (fs.map kT):=by
 obtain⟨_,xs,e,_,h1,h2⟩:=RdV.tuple_inv h
 cases e
 obtain⟨x,y,z,rfl,hx,hy,hz⟩:=h2.three
 obtain⟨k,kx,rfl,nk,h3,h4⟩:=hx.list_inv
 obtain rfl:=h4.strs_inv
 obtain⟨t,tx,rfl,nt,h5,h6⟩:=hy.list_inv
 obtain⟨f,fx,rfl,nf,h7,h8⟩:=hz.list_inv
 exact⟨k,t,f,tx,fx,h1,h3,h5,h6,h7,h8⟩
theorem xb{H:Hp}{tv:List V}{ts:List ar}{i:Nat}{y:V}(rt:RdA Any H tv (ts.map lr))(hy:tv[i]? = some y):∃ t py pp,ts[i]? = some t∧y=.ref py∧H py=some (.tup [.str t.nm,.ref pp])∧H pp=some (.lst (t.ps.map V.str)):=by
 obtain⟨d,hd,rd⟩:=rt.getV hy
 rw [YB] at hd
 obtain⟨t,ht,rfl⟩:=Yx.mp hd
 obtain⟨py,px,rfl,_,hpy,hpx⟩:=RdV.tuple_inv rd
 obtain⟨a1,a2,rfl,r1,r2⟩:=hpx.two
 obtain rfl:=r1.str_inv
 obtain⟨pp,ppx,rfl,_,hpp,hps⟩:=r2.list_inv
 obtain rfl:=hps.strs_inv
 exact⟨t,py,pp,ht,rfl,hpy,hpp⟩
theorem xc{H:Hp}{tv:List V}{ts:List am}{i:Nat}{y:V}(rt:RdA Any H tv (ts.map kT))(hy:tv[i]? = some y):∃ t py pp,ts[i]? = some t∧y=.ref py∧H py=some (.tup [.str t.nm,.ref pp,.str t.kd])∧H pp=some (.lst (t.ps.map V.str)):=by
 obtain⟨d,hd,rd⟩:=rt.getV hy
 rw [YB] at hd
 obtain⟨t,ht,rfl⟩:=Yx.mp hd
 obtain⟨py,px,rfl,_,hpy,hpx⟩:=RdV.tuple_inv rd
 obtain⟨a1,a2,a3,rfl,r1,r2,r3⟩:=hpx.three
 obtain rfl:=r1.str_inv
 obtain rfl:=r3.str_inv
 obtain⟨pp,ppx,rfl,_,hpp,hps⟩:=r2.list_inv
 obtain rfl:=hps.strs_inv
 exact⟨t,py,pp,ht,rfl,hpy,hpp⟩
theorem fu{α:Type}{p:α→Bool}:∀ {l:List α} {i:Nat} {t:α},l[i]? = some t→p t=true→(∀ j u,j<i→l[j]? = some u→p u=false)→l.find? p=some t
 | x::r,0,t,e,h,_=>by cases e; rw [Xi,h]
 | x::r,i+1,t,e,h,n=>by
  rw [Xi,n 0 x (Nat.zero_lt_succ _) rfl]
  exact fu (i:=i) e h fun j u hj e=>n (j+1) u (Nat.succ_lt_succ hj) e
theorem gg{α:Type}{p:α→Bool}{l:List α}(n:∀ j u,j<l.length→l[j]? = some u→p u=false):l.find? p=none:=by
 rw [List.find?_eq_none]
 intro x hx
 obtain⟨j,hj,e⟩:=List.getElem_of_mem hx
 rw [n j x hj (by rw [Xg hj,e])]
 exact Yt
section
abbrev eZ:Stmt:=top 57
theorem zc2:aj ["_law_signs","_law_name_here","_law_sign_here"] lB3 (ag eZ):=by walk_at "F"
def iD:Sp:=fun vs H Q _=>(∃ (l:Addr) (tv:List V) (ts:List ar) (z:Str),vs=[.ref l,.str z]∧H l=some (.lst tv)∧RdA Any H tv (ts.map lr)∧(eX ts z=none→Q .non H)∧∀ ps pl p,eX ts z=some ps→H p=some (.tup [.str z,.ref pl])→H pl=some (.lst (ps.map V.str))→Q (.ref p) H)∨
 ∃ (l:Addr) (tv:List V) (ts:List am) (z:Str),vs=[.ref l,.str z]∧H l=some (.lst tv)∧RdA Any H tv (ts.map kT)∧(gc ts z=none→Q .non H)∧∀ ps k pl p,gc ts z=some (ps,k)→H p=some (.tup [.str z,.ref pl,.str k])→H pl=some (.lst (ps.map V.str))→Q (.ref p) H
theorem wM(F:ah K mg "_law_sign" eZ lB3)(Z:Bl mg):Def P w K mg base "_law_sign" 1 lB3 iD:=by
 have SC:=zc2
 refine F.mk' (k:=0) zc2 (fun vs H Q E h=>?_) (fun f cdv A outer s H vs Q E hr h=>?_)
 ·rcases h with ⟨_,_,_,_,rfl,_⟩ | ⟨_,_,_,_,rfl,_⟩ <;> rfl
 ·skip
  refine'⟨_,?dv,?_⟩
  case dv=>(have:=af 10 300 11 28; have:=af 8 299 26 36; walk_at "S2")
  rcases h with ⟨l,tv,ts,z,rfl,hl,rt,q0,q1⟩ | ⟨l,tv,ts,z,rfl,hl,rt,q0,q1⟩
  ·have tl:tv.length=ts.length:=by rw [rt.length,Yh]
   refine LT.over (K:=K) (.inl hl) rfl fun J O=>O.loop (fun i σ H2=>H2=H∧(∃ v3,σ=[some (.ref l),some (.str z),v3])∧∀ j t,j<i→ts[j]? = some t→(t.nm==z)=false) ⟨rfl,⟨none,rfl⟩,fun j t h=>by omega⟩ (fun i σ H2 _ h o e=>by rw [h.1]; exact e) ?_ ?_
   ·rintro i y σ H2 hi ⟨rfl,⟨v3,rfl⟩,hn⟩
    obtain⟨t,py,pl,ht,rfl,h1,h2⟩:=xb rt hi
    refine⟨_,rfl,py,_,_,_,rfl,rfl,SqT.of h1,rfl,_,rfl,rfl,_,rfl,?_⟩
    by_cases e:t.nm=z
    ·rw [e] at h1
     refine ifT (by simp [e]) ⟨_,rfl,q1 t.ps pl py ?_ h1 h2⟩
     unfold eX
     rw [fu ht (by simp [e]) hn]; rfl
    ·refine ifF (by simp [e]) ⟨rfl,⟨_,rfl⟩,fun j u hj eu=>?_⟩
     by_cases hji:j<i
     ·exact hn j u hji eu
     ·obtain rfl:j=i:=by omega
      rw [ht] at eu; cases eu; simpa using e
   ·rintro σ H2 ⟨rfl,⟨v3,rfl⟩,hn⟩
    refine q0 ?_
    unfold eX
    rw [gg fun j u hj eu=>hn j u (by omega) eu]; rfl
  ·have tl:tv.length=ts.length:=by rw [rt.length,Yh]
   refine LT.over (K:=K) (.inl hl) rfl fun J O=>O.loop (fun i σ H2=>H2=H∧(∃ v3,σ=[some (.ref l),some (.str z),v3])∧∀ j t,j<i→ts[j]? = some t→(t.nm==z)=false) ⟨rfl,⟨none,rfl⟩,fun j t h=>by omega⟩ (fun i σ H2 _ h o e=>by rw [h.1]; exact e) ?_ ?_
   ·rintro i y σ H2 hi ⟨rfl,⟨v3,rfl⟩,hn⟩
    obtain⟨t,py,pl,ht,rfl,h1,h2⟩:=xc rt hi
    refine⟨_,rfl,py,_,_,_,rfl,rfl,SqT.of h1,rfl,_,rfl,rfl,_,rfl,?_⟩
    by_cases e:t.nm=z
    ·rw [e] at h1
     refine ifT (by simp [e]) ⟨_,rfl,q1 t.ps t.kd pl py ?_ h1 h2⟩
     unfold gc
     rw [fu ht (by simp [e]) hn]; rfl
    ·refine ifF (by simp [e]) ⟨rfl,⟨_,rfl⟩,fun j u hj eu=>?_⟩
     by_cases hji:j<i
     ·exact hn j u hji eu
     ·obtain rfl:j=i:=by omega
      rw [ht] at eu; cases eu; simpa using e
   ·rintro σ H2 ⟨rfl,⟨v3,rfl⟩,hn⟩
    refine q0 ?_
    unfold gc
    rw [gg fun j u hj eu=>hn j u (by omega) eu]; rfl
abbrev fc:Stmt:=top 60
theorem zc3:aj lA7 lA7 (ag fc):=by walk_at "F"
theorem uj(F:ah K mg "_law_name" fc lA7)(Z:Bl mg):Def P w K mg base "_law_name" 1 lA7 spNameE:=by
 have SC:=zc3
 refine F.mk' (k:=0) zc3 (fun vs H Q E h=>?_) (fun f cdv A outer s H vs Q E hr h=>?_)
 ·obtain⟨v,rfl,_⟩:=h
  rfl
 ·obtain⟨v,rfl,hv,hlen,q⟩:=h
  refine'⟨_,?dv,?_⟩
  case dv=>(have:=af 2 317 11 38; have:=af 3 319 16 62; have:=af 4 317 51 66; have:=bG 319 15 96 1 ["_law_sign_here","_law_thing"]; have:=af 5 319 85 95; have:=af 6 319 16 62; walk_at "S2")
  obtain⟨ty,hty,hk⟩:=hv.isS (K:=K)
  refine⟨_,rfl,_,_,_,rfl,hty,hk,?_⟩
  by_cases hs:∃ z,v=.str z
  ·obtain⟨z,rfl⟩:=hs
   have hz:=eE z
   have hcs:z.cps.size=z.cps.toList.length:=by simp
   have hB:nmV (.str z)=(decide (1≤z.cps.toList.length)&&decide (z.cps.toList.length≤12)&&z.cps.toList.all g9):=rfl
   refine⟨true,rfl,cX ?_⟩
   refine⟨_,rfl,_,rfl,Yn (hlen z rfl) (by decide),_,_,rfl,rfl,_,rfl,?_⟩
   by_cases h1:1≤z.cps.toList.length
   ·refine ifT (decide_eq_true (by omega)) ?_
    refine⟨_,_,rfl,rfl,_,rfl,?_⟩
    by_cases h2:z.cps.toList.length≤12
    ·rw [decide_eq_true h1,decide_eq_true h2] at hB
     refine ifF (by simp; omega) ?_
     refine⟨_,rfl,z,rfl,?_⟩
     intro cl C ex s0 H0
     refine bH z.cps.size (fun i ys H1=>ys=((z.cps.toList.take i).map g9).map V.bl∧H1=H) (fun i x=>∃ c,z.cps[i]? = some c∧x=.str ⟨#[c]⟩) ⟨rfl,rfl⟩ (Yn (show z.cps.size≤12 by omega) (by decide)) (fun i ys H1 hi _ _=>on hi) (fun ys H1 _ _=>iA) ?_ ?_
     ·rintro i x ys H1 hi ⟨c,hc,rfl⟩ hy ⟨rfl,rfl⟩
      have hm:z.cps.toList[i]? = some c:=by simpa using hc
      refine⟨_,rfl,_,_,rfl,rfl,?_,rfl⟩
      rw [YL,hm]
      show _=List.map V.bl (List.map g9 (List.take i z.cps.toList++[c]))
      rw [Yz,Yz]
      rfl
     ·rintro ys H1 hy ⟨rfl,rfl⟩ D hD
      refine⟨D,(z.cps.toList.take z.cps.size).map g9,rfl,SqL.of aa,?_⟩
      have:=q _ (ad hD (.lst (((z.cps.toList.take z.cps.size).map g9).map V.bl)))
      rw [hB] at this
      rw [YF (by omega)] at this ⊢
      rw [List.all_map]
      exact this
    ·rw [decide_eq_false h2,Bool.and_false,Xo] at hB
     have:=q _ (Same.refl _)
     rw [hB] at this
     exact ifT (by simp; omega) this
   ·rw [decide_eq_false h1,Xo,Xo] at hB
    have:=q _ (Same.refl _)
    rw [hB] at this
    refine ifF (by simp; omega) ?_
    exact⟨false,rfl,uN this⟩
  ·have hst:cY v=false:=by cases v <;> first | rfl | exact absurd ⟨_,rfl⟩ hs
   have hB:nmV v=false:=by cases v <;> first | rfl | exact absurd ⟨_,rfl⟩ hs
   have:=q _ (Same.refl _)
   rw [hB] at this
   exact⟨false,by rw [hst],uN this⟩
end
def gz:Option Str→V
 | none=>.non
 | some k=>.str k
theorem xq(o:Option Str)(p:Str):decide (gz o=V.str p)=(o==some p):=by
 cases o with
 | none=>rfl
 | some k=>
  rw [Xt]
  simp [gz]
theorem yi{K:XC}{H:Hp}{a:Addr}{x:V}{xs:List V}{Q:VK}(h:LT H a (x::xs))(q:∀ p o,H p=none→LT (upd H p o) p xs→Q (.ref p) (upd H p o)):yu K (.ref a) (some 1) none H Q:=by
 have e1:HT.sIx (x::xs).length 0 (some 1)=1:=by
  show min (Int.toNat 1) (xs.length+1)=1
  have : Int.toNat 1=1:=rfl
  omega
 have e2:eQ (x::xs) (some 1) none=xs:=by
  unfold eQ
  rw [e1]
  show List.take (xs.length+1-1) (List.drop 1 (x::xs))=xs
  simp
 rcases h with h | h
 ·exact .inl ⟨a,_,rfl,SqL.of h,fun p hp=>q p _ hp (.inl (by rw [aa,e2]))⟩
 ·exact .inr (.inl ⟨a,_,rfl,SqT.of h,fun z=>by rw [e1] at z; exact absurd z.1 (by decide),fun p hp=>q p _ hp (.inr (by rw [aa,e2]))⟩)
theorem LT.b{K:XC}{H:Hp}{a:Addr}{xs:List V}(h:LT H a xs):∃ b,∀ H',Same H H'→SqB b K H' a xs:=h.elim (fun h=>⟨true,fun H' s=>SqL.of (s _ _ h)⟩) fun h=>⟨false,fun H' s=>SqT.of (s _ _ h)⟩
theorem o9{fs:List am}{S:Sco}:∀ {ds:List PyData} {ps:List Str},ds.length=ps.length→br fs S ds ps=(List.zipWith (fun d p=>aO fs S d==some p) ds ps).all id
 | [],[],_=>rfl
 | [],_::_,h=>by cases h
 | _::_,[],h=>by cases h
 | d::ds,p::ps,h=>by
  rw [br,List.zipWith_cons_cons,List.all_cons,o9 (Nat.succ.inj h)]; rfl
theorem kO{d:PyData}{ds:List PyData}{n W:Nat}(h:jP d=some ds)(h1:d.depth≤n+1)(h2:d.weight≤W):YG ds≤n∧YE ds≤W:=by
 cases d <;> first | cases h | skip
 ·rw [XB] at h1; rw [Xf] at h2; exact⟨by omega,h2⟩
 ·rw [XB] at h1; rw [Xf] at h2; exact⟨by omega,h2⟩
theorem fJ:∀ {ds:List PyData} {i:Nat} {d:PyData},cS ds=true→ds[i]? = some d→m8 d=true
 | d::ds,0,_,h,e=>by cases e; rw [cS,YK] at h; exact h.1
 | _::ds,i+1,d,h,e=>by rw [cS,YK] at h; exact fJ (ds:=ds) (i:=i) h.2 e
theorem lq{d:PyData}(h:m8 d=true)(hs:∀ z,d≠.str z):∃ ds,jP d=some ds∧cS ds=true:=by
 cases d with
 | str z=>exact absurd rfl (hs z)
 | list xs=>exact⟨xs,rfl,h⟩
 | tuple xs=>exact⟨xs,rfl,h⟩
 | none=>cases h
 | bool _=>cases h
 | int _=>cases h
 | dict _=>cases h
section
abbrev cx:Stmt:=top 58
theorem zc4:aj ["_law_book_here","_law_thing","_law_meant_here","_law_sign_here"] lA0 (ag cx):=by walk_at "F"
abbrev cB:Stmt:=top 59
theorem zc5:aj lA2 lA2 (ag cB):=by walk_at "F"
inductive spKo(n:Nat)(vs:List V)(H:Hp)(Q:VK)(e3_:XK):Prop | mk (b m:Addr) (v:V) (ks:List Str) (ts:List ar) (fs:List am) (S:Sco) (d:PyData) (_:vs=[.ref b,v,.ref m]) (_:BkR H b ks ts fs) (_:aV ks ts fs) (_:Rd0 H v d) (_:m8 d=true) (_:lh H m S) (_:d.depth≤n) (_:d.weight≤100000) (_:∀ H',Same H H'→Q (gz (aO fs S d)) H')
inductive spTms(n:Nat)(vs:List V)(H:Hp)(Q:VK)(e3_:XK):Prop | mk (b a pl m:Addr) (x0:V) (xs:List V) (ks:List Str) (ts:List ar) (fs:List am) (S:Sco) (ds:List PyData) (ps:List Str) (_:vs=[.ref b,.ref a,.ref pl,.ref m]) (_:BkR H b ks ts fs) (_:aV ks ts fs) (_:LT H a (x0::xs)) (_:aP H xs ds) (_:cS ds=true) (_:H pl=some (.lst (ps.map V.str))) (_:ps.length≤2) (_:lh H m S) (_:YG ds≤n) (_:YE ds≤100000) (_:∀ H',Same H H'→Q (.bl (br fs S ds ps)) H')
theorem jK(F:ah K mg "_law_terms" cB lA2)(Z:Bl mg)(n_zip:mg "zip"=none)(n:Nat)(D_law_kind_of:Def P w K mg base "_law_kind_of" (2*n+2) lA0 (spKo n)):Def P w K mg base "_law_terms" (2*n+3) lA2 (spTms n):=by
 have SC:=zc5
 refine F.mk' (k:=2*n+2) zc5 (fun vs H Q E h=>?_) (fun f cdv A outer s H vs Q E hr h=>?_)
 ·obtain⟨b,a,pl,m,x0,xs,ks,ts,fs,S,ds,ps,rfl,_⟩:=h
  rfl
 ·obtain⟨b,a,pl,m,x0,xs,ks,ts,fs,S,ds,ps,rfl,hb,ok,hL,hm,htx,hp,h2,hS,hd,hw,q⟩:=h
  refine'⟨_,?dv,?_⟩
  case dv=>(have:=af 34 315 118 132; have:=bG 315 15 147 2 ["_law_one","_law_place","_law_book_here","_law_thing","_law_places","_law_meant_here"]; walk_at "S2")
  have ml:=aP.length hm
  refine⟨_,rfl,a,_,rfl,hL.sq,_,rfl,pl,_,rfl,.inl (SqL.of hp),_,_,rfl,rfl,rfl,_,rfl,?_⟩
  by_cases hl:ds.length=ps.length
  rotate_left
  ·refine ifT (by simp; omega) ?_
   have:=q H (Same.refl _)
   rw [o5 hl] at this
   exact this
  refine ifF (by simp; omega) ?_
  refine⟨_,rfl,_,rfl,yi hL fun p o hp0 hLp=>?_⟩
  have s1:=ad hp0 o
  generalize upd H p o=H1 at s1 hLp
  obtain⟨b1,hb1⟩:=hLp.b (K:=K)
  refine⟨_,rfl,b1,true,p,pl,xs,ps.map V.str,rfl,hb1 _ (Same.refl _),SqL.of (s1 _ _ hp),?_⟩
  intro cl C ex s0 H0
  refine rK (K:=K) (xs:=xs) (ys:=ps.map V.str) (by rw [Yh]; omega) (Yn (show xs.length≤2 by omega) (by decide)) (fun i zs H2=>Same H1 H2∧zs=((List.zipWith (fun d p=>aO fs S d==some p) ds ps).take i).map V.bl) ⟨Same.refl _,rfl⟩ (fun i zs H2 ⟨z,_⟩=>⟨hb1 _ z,SqL.of (z _ _ (s1 _ _ hp))⟩) ?_ ?_
  ·rintro i x y zs H2 H3 hx hy zl ⟨s2,rfl⟩ s3
   rw [YB] at hy
   obtain⟨k,hk,rfl⟩:=Yx.mp hy
   obtain⟨d,hd',hmt⟩:=aP.get hm hx
   have dt:=cZ hd'
   have wt:=iq hd'
   have s03:=(s1.trans s2).trans s3
   refine⟨_,rfl,_,rfl,_,rfl,b,m,x,ks,ts,fs,S,d,rfl,hb.same s03,ok,Rd0.same hmt s03,fJ htx hd',hS.same s03,by omega,by omega,fun H4 s4=>⟨_,rfl,?_,(s2.trans s3).trans s4,?_⟩⟩
   ·cases aO fs S d <;> rfl
   ·rw [xq,YL,List.getElem?_zipWith,hd',hk]
    simp
  ·rintro zs H2 zl ⟨s2,rfl⟩ D hD
   refine⟨D,_,rfl,SqL.of aa,?_⟩
   have:=q _ ((s1.trans s2).trans (ad hD (.lst (((List.zipWith (fun d p=>aO fs S d==some p) ds ps).take xs.length).map V.bl))))
   rw [o9 hl] at this
   rw [YF (by rw [List.length_zipWith]; omega)] at this ⊢
   exact this
def ny:Nat→Sp
 | 0=>fun _ _ _ _=>False
 | n+1=>spTms n
theorem qr{m:Nat}{vs:List V}{H:Hp}{Q:VK}{E:XK}(h:spTms m vs H Q E):ny (m+1) vs H Q E:=h
theorem wI(F:ah K mg "_law_terms" cB lA2):Def P w K mg base "_law_terms" 1 lA2 (ny 0):=
 F.mk' (k:=0) zc5 (fun vs H Q E h=>False.elim h) fun f cdv A outer s H vs Q E hr h=>False.elim h
theorem lU(F:ah K mg "_law_kind_of" cx lA0)(Z:Bl mg)(D_law_sign:Def P w K mg base "_law_sign" 1 lB3 iD)(n:Nat)(D_law_terms:Def P w K mg base "_law_terms" (2*n+1) lA2 (ny n)):Def P w K mg base "_law_kind_of" (2*n+2) lA0 (spKo n):=by
 have SC:=zc4
 refine F.mk' (k:=2*n+1) zc4 (fun vs H Q E h=>?_) (fun f cdv A outer s H vs Q E hr h=>?_)
 ·obtain⟨b,m,v,ks,ts,fs,S,d,rfl,_⟩:=h
  rfl
 ·obtain⟨b,m,v,ks,ts,fs,S,d,rfl,hb,ok,hv,htx,hS,hd,hw,q⟩:=h
  refine'⟨_,?dv,?_⟩
  case dv=>(have:=af 2 304 7 34; have:=af 10 311 11 28; have:=af 10 308 31 48; have:=af 27 308 50 63; have:=af 2 306 35 65; have:=af 27 306 46 59; have:=af 10 309 76 93; walk_at "S2")
  obtain⟨ty,hty,hk⟩:=(Rd0.sh hv).isS (K:=K)
  by_cases hx:∃ z,d=.str z
  ·obtain⟨x0,rfl⟩:=hx
   cases hv
   obtain⟨kvs,e1,_,e2⟩:=id hS
   have hg:dX H m (.str x0) (aW kvs (.inr x0)):=dX.k (k:=.inr x0) e1
   rw [e2] at hg
   refine⟨_,rfl,_,ty,_,rfl,hty,hk,_,rfl,ifT rfl ?_⟩
   refine⟨_,rfl,m,rfl,.inl ⟨kvs,.inl e1⟩,_,rfl,_,hg,?_⟩
   have:=q H (Same.refl _)
   rw [aO] at this
   cases hs:S x0 with
   | none=>rw [hs] at this; exact this
   | some k=>rw [hs] at this; exact this
  have hs:∀ z,d≠.str z:=fun z e=>hx ⟨z,e⟩
  have hst:cY v=false:=by cases hv <;> first | rfl | exact absurd rfl (hs _)
  rw [hst] at hk
  have none_of:cR d=none→∀ H',Same H H'→Q .non H':=fun e H' s'=>by
   have:=q H' s'
   rw [im e hs] at this
   exact this
  refine⟨_,rfl,_,ty,false,rfl,hty,hk,false,rfl,cX ?_⟩
  obtain⟨ds,hkd,htxs⟩:=lq htx hs
  obtain⟨a,xs,rfl,hL,hm⟩:=hv.row hkd
  refine⟨_,rfl,a,_,rfl,hL.sq,rfl,_,rfl,?_⟩
  cases hm with
  | nil=>
   have hwn:cR d=none:=by cases d <;> first | rfl | (cases hkd; rfl) | cases hkd
   exact ifT rfl (ifT rfl (none_of hwn _ (Same.refl _)))
  | @cons x xs' d0 ds' h0 hm'=>
  obtain⟨ty3,hty3,hk3⟩:=(Rd0.sh h0).isS (K:=K)
  refine ifF (by simp; omega) ⟨_,rfl,bV hL.sq (aK (x:=x) (by decide) rfl) ⟨_,_,_,rfl,hty3,hk3,_,rfl,?_⟩⟩
  by_cases hz:∃ z,d0=.str z
  rotate_left
  ·have hwn:cR d=none:=by
    cases d <;> first | rfl | (cases hkd; cases d0 <;> first | rfl | exact absurd ⟨_,rfl⟩ hz)
   have hs0:cY x=false:=by cases h0 <;> first | rfl | exact absurd ⟨_,rfl⟩ hz
   rw [hs0]
   exact ifT rfl (none_of hwn _ (Same.refl _))
  obtain⟨z,rfl⟩:=hz
  cases h0
  have hwt:cR d=some (z,ds'):=by cases d <;> first | (cases hkd; rfl) | cases hkd
  have hdp:=eC hwt
  have hkn:=ln (fs:=fs) (S:=S) hwt
  have htx':cS ds'=true:=by rw [cS,YK] at htxs; exact htxs.2
  have hwA:YE ds'≤100000:=by
   obtain⟨_,bw⟩:=kO (n:=n) hkd (by omega) hw
   rw [YE] at bw
   omega
  refine ifF (show ¬ (!cY (V.str z))=true from Yt) ?_
  obtain⟨kA,tA,fA,tv,fv,b1,k1,t1,t2,f1,f2⟩:=hb.open
  refine⟨_,rfl,b,_,_,_,rfl,rfl,SqT.of b1,rfl,_,rfl,bV hL.sq (aK (x:=V.str z) (by decide) rfl) (.inr ⟨fA,fv,fs,z,rfl,f1,f2,fun hf=>?_,fun ps k pl p hf ep epl=>?_⟩)⟩
  ·rw [hf] at hkn
   have:=q H (Same.refl _)
   rw [hkn] at this
   exact⟨_,rfl,rfl,_,rfl,ifT rfl (ifT rfl this)⟩
  ·rw [hf] at hkn
   replace hkn:aO fs S d=if br fs S ds' ps then some k else none:=hkn
   obtain⟨m',rfl⟩:∃ m',n=m'+1:=⟨n-1,by omega⟩
   obtain⟨t0,ht0,_,rfl,rfl⟩:=jV hf
   refine⟨_,rfl,rfl,_,rfl,ifF (by simp) ?_⟩
   refine⟨_,rfl,_,rfl,_,rfl,p,_,_,_,rfl,rfl,SqT.of ep,rfl,_,rfl,?_⟩
   unfold eY
   refine qr (m:=m') (E:=E0) ⟨b,a,pl,m,.str z,xs',ks,ts,fs,S,ds',t0.ps,rfl,hb,ok,hL,hm',htx',epl,(ok.fn t0 ht0).2.1,hS,by omega,hwA,fun H3 s3=>?_⟩
   have:=q H3 s3
   rw [hkn] at this
   cases hrow:br fs S ds' t0.ps with
   | false=>
    rw [hrow] at this
    exact⟨_,rfl,ifT rfl this⟩
   | true=>
    rw [hrow] at this
    exact⟨_,rfl,ifF (by simp) ⟨_,rfl,p,_,_,_,rfl,rfl,SqT.of (s3 _ _ ep),rfl,this⟩⟩
theorem uk(F1:ah K mg "_law_kind_of" cx lA0)(F2:ah K mg "_law_terms" cB lA2)(Z:Bl mg)(n_zip:mg "zip"=none)(D_law_sign:Def P w K mg base "_law_sign" 1 lB3 iD):
  ∀ n,Def P w K mg base "_law_kind_of" (2*n+2) lA0 (spKo n)∧Def P w K mg base "_law_terms" (2*n+3) lA2 (spTms n)
 | 0=>
  have h:=lU F1 Z D_law_sign 0 (wI F2)
  ⟨h,jK F2 Z n_zip 0 h⟩
 | n+1=>
  have h:=lU F1 Z D_law_sign (n+1) (uk F1 F2 Z n_zip D_law_sign n).2
  ⟨h,jK F2 Z n_zip (n+1) h⟩
end
theorem lN{K:XC}{H:Hp}{a:Addr}{x:V}{xs:List V}{i:Nat}{σ:St}{R:It→Hp→Prop}(h:LT H a (x::xs))(hv:σ[i]? = some (some (.ref a)))(k:∀ p o J,H p=none→rD (upd H p o) p xs J→R J (upd H p o)):zj K (tSl (yu K) (tVar i) (xK (tC (.int 1))) oY) σ H R:=by
 have e1:HT.sIx (x::xs).length 0 (some 1)=1:=by
  show min (Int.toNat 1) (xs.length+1)=1
  have : Int.toNat 1=1:=rfl
  omega
 have e2:eQ (x::xs) (some 1) none=xs:=by
  unfold eQ
  rw [e1]
  show List.take (xs.length+1-1) (List.drop 1 (x::xs))=xs
  simp
 rcases h with h | h
 ·refine .inl ⟨_,hv,1,rfl,.inl ⟨a,_,rfl,SqL.of h,fun p hp=>⟨p,rfl,?_,?_⟩⟩⟩
  ·exact⟨_,SqL.of aa⟩
  ·rw [e2]
   exact k p _ _ hp ⟨fun i H' kp hi=>gb (SqL.of (kp _ aa)) hi,fun H' kp=>dA (SqL.of (kp _ aa))⟩
 ·refine .inr ⟨_,hv,1,rfl,.inr (.inl ⟨a,_,rfl,SqT.of h,fun z=>by rw [e1] at z; exact absurd z.1 (by decide),fun p hp=>⟨p,rfl,?_,?_⟩⟩)⟩
  ·exact⟨_,SqT.of aa⟩
  ·rw [e2]
   exact k p _ _ hp ⟨fun i H' kp hi=>om (SqT.of (kp _ aa)) hi,fun H' kp=>iz (SqT.of (kp _ aa))⟩
theorem vj(k:Str)(o:Option Str):decide (gz (some k)=gz o)=((some k).isSome&&some k==o):=by
 cases o with
 | none=>rfl
 | some k=>
  rw [Xt]
  simp [gz]
theorem zo{fs:List am}{S:Sco}:∀ {ds:List PyData},ds.length≠2→eqD fs S ds=false
 | [],_=>rfl
 | [_],_=>rfl
 | [_,_],h=>absurd rfl h
 | _::_::_::_,_=>rfl
theorem all_map{ks:List Str}{ts:List ar}{fs:List am}{S:Sco}:∀ {ds:List PyData},dW ks ts fs ds S=(ds.map fun d=>bZ ks ts fs d S).all id
 | []=>rfl
 | d::ds=>by rw [dW,YA,List.all_cons,all_map (ds:=ds)]; rfl
theorem vN{H:Hp}{d:Addr}{S:Sco}{bb:Nat}{kvs:List (Key×V)}(e2:∀ x:Str,aW kvs (.inr x)=(S x).map V.str)(el:kvs.length≤bb)(hd:H d=none)(xn kd:Str):Same H (upd (upd H d (.dK kvs)) d (.dK (cr kvs (.inr xn) (.str kd))))∧ScB (upd (upd H d (.dK kvs)) d (.dK (cr kvs (.inr xn) (.str kd)))) d (S.put xn kd) (bb+1):=by
 refine⟨fun c o e=>by rw [ac (ae e hd)]; exact ad hd _ c o e,_,aa,Yn (bE _ _ _) (by omega),fun y=>?_⟩
 rw [d6]
 unfold Sco.put
 by_cases hy:y=xn
 ·rw [if_pos (by rw [hy]),if_pos hy]; rfl
 ·rw [if_neg (fun z=>hy (Sum.inr.inj z)),if_neg hy]; exact e2 y
theorem vy{ks:List Str}{ts:List ar}{fs:List am}{S:Sco}:∀ {ds:List PyData},ds.length≠3→ck ks ts fs ds S=false
 | [],_=>rfl
 | [d],_=>by cases d <;> rfl
 | [a,b],_=>by cases a <;> first | rfl | (cases b <;> rfl)
 | [_,_,_],h=>absurd rfl h
 | a::b::c::d::r,_=>by cases a <;> first | rfl | (cases b <;> rfl)
theorem zh{v:V}(ks:List Str)(h:∀ z:Str,eqV (.str z) v=false):inV v (ks.map V.str)=false:=by
 induction ks with
 | nil=>rfl
 | cons k ks ih=>
  show (eqV (.str k) v||inV v (ks.map V.str))=false
  rw [h,ih]; rfl
theorem Rd0.noS{K:XC}{H:Hp}{v:V}{d:PyData}(h:Rd0 H v d):NoS K H v:=by
 cases h with
 | non=>exact .flat rfl
 | bl b=>exact .flat rfl
 | int i=>exact .flat rfl
 | str x=>exact .flat rfl
 | lst _ e _=>exact .row (.inl (SqL.of e))
 | tup _ e _=>exact .row (.inr (SqT.of e))
 | d0 _ e=>exact .dct e
 | d1 _ e=>exact .dct e
section
abbrev cC:Stmt:=top 61
theorem zc6:aj ["_law_book_here","_law_thing","_law_meant_here","_law_inner"] lA0 (ag cC):=by walk_at "F"
abbrev bj:Stmt:=top 62
theorem zc7:aj ["_law_book_here","_law_thing","_law_meant_here","_law_word","_law_kinds","_law_sign_here"] lA0 (ag bj):=by walk_at "F"
inductive spIs(n:Nat)(vs:List V)(H:Hp)(Q:VK)(e3_:XK):Prop | mk (b m:Addr) (v:V) (ks:List Str) (ts:List ar) (fs:List am) (S:Sco) (bb:Nat) (d:PyData) (_:vs=[.ref b,v,.ref m]) (_:BkR H b ks ts fs) (_:aV ks ts fs) (_:Rd0 H v d) (_:m8 d=true) (_:ScB H m S bb) (_:bb+n≤100) (_:d.depth≤n) (_:d.weight≤100000) (_:∀ H',Same H H'→Q (.bl (bZ ks ts fs d S)) H')
inductive spBd(n:Nat)(vs:List V)(H:Hp)(Q:VK)(e3_:XK):Prop | mk (b a m:Addr) (x0:V) (xs:List V) (ks:List Str) (ts:List ar) (fs:List am) (S:Sco) (bb:Nat) (ds:List PyData) (_:vs=[.ref b,.ref a,.ref m]) (_:BkR H b ks ts fs) (_:aV ks ts fs) (_:LT H a (x0::xs)) (_:aP H xs ds) (_:cS ds=true) (_:ScB H m S bb) (_:bb+1+n≤100) (_:YG ds≤n) (_:YE ds≤100000) (_:∀ H',Same H H'→Q (.bl (ck ks ts fs ds S)) H')
theorem ut(F:ah K mg "_law_bound" cC lA0)(Z:Bl mg)(n_dict:mg "dict"=none)(D_law_name:Def P w K mg base "_law_name" 1 lA7 spNameE)(n k:Nat)(D_law_is_saying:Def P w K mg base "_law_is_saying" (k+1) lA0 (spIs n)):Def P w K mg base "_law_bound" (k+2) lA0 (spBd n):=by
 have SC:=zc6
 refine F.mk' (k:=k+1) zc6 (fun vs H Q E h=>?_) (fun f cdv A outer s H vs Q E hr h=>?_)
 ·obtain⟨b,a,m,x0,xs,ks,ts,fs,S,bb,ds,rfl,_⟩:=h
  rfl
 ·obtain⟨b,a,m,x0,xs,ks,ts,fs,S,bb,ds,rfl,hb,ok,hL,hm,htx,hS,hbb,hd,hw,q⟩:=h
  refine'⟨_,?dv,?_⟩
  case dv=>(have:=af 27 324 32 45; have:=af 35 321 63 101; have:=af 27 324 15 28; have:=af 27 325 42 55; have:=af 27 321 63 76; have:=af 10 321 84 101; have:=af 27 321 45 58; have:=af 15 324 4 45; have:=af 36 321 63 101; walk_at "S2")
  have ml:=aP.length hm
  refine⟨_,rfl,a,_,rfl,hL.sq,rfl,_,rfl,?_⟩
  by_cases hl:ds.length=3
  rotate_left
  ·have:=q H (Same.refl _)
   rw [vy hl] at this
   exact ifT (by simp; omega) (ifT rfl this)
  refine ifF (by simp; omega) ?_
  obtain⟨va,vb,vc,rfl⟩:∃ va vb vc,xs=[va,vb,vc]:=by
   match xs,ml.trans hl with
   | [a,b,c],_=>exact⟨a,b,c,rfl⟩
  cases hm with
  | @cons _ _ d0 _ m0 hm=>
  cases hm with
  | @cons _ _ d1 _ m1 hm=>
  cases hm with
  | @cons _ _ d2 _ m2 hm=>
  cases hm
  have dp2:d2.depth≤YG [d0,d1,d2]:=cZ (i:=2) rfl
  have w0:d0.weight<YE [d0,d1,d2]:=iq (i:=0) rfl
  have w2:d2.weight<YE [d0,d1,d2]:=iq (i:=2) rfl
  refine⟨_,rfl,bV hL.sq (aK (x:=va) (by decide) rfl) ⟨va,rfl,Rd0.sh m0,Rd0.len m0 (iI (by omega)),fun H1 s1=>⟨_,rfl,?_⟩⟩⟩
  cases hx:nmV va with
  | false=>
   have:=q H1 s1
   rw [mR m0 hx] at this
   exact ifT rfl (ifT rfl this)
  | true=>
  obtain⟨xn,rfl,rfl,hxn⟩:=uz m0 hx
  obtain⟨kA,tA,fA,tv,fv,b1,k1,t1,t2,f1,f2⟩:=(hb.same s1).open
  refine ifF (by decide) ⟨_,rfl,bV (hL.same s1).sq (aK (x:=vb) (by decide) rfl) ⟨_,rfl,b,_,_,_,rfl,rfl,SqT.of b1,rfl,kA,ks,rfl,SqL.of k1,Rd0.noS (Rd0.same m1 s1),_,rfl,?_⟩⟩
  by_cases hkd:∃ kd,d1=.str kd∧kd∈ks
  rotate_left
  ·have:=q H1 s1
   have hin:inV vb (ks.map V.str)=false:=by
    cases m1 with
    | str z=>rw [cF,decide_eq_false fun h=>hkd ⟨z,rfl,h⟩]
    | _=>exact zh ks (by intro z; rfl)
   have hbf:ck ks ts fs [.str xn,d1,d2] S=false:=by
    cases m1 with
    | str z=>
     rw [gi,show ks.contains z=false from by simpa using fun h=>hkd ⟨z,rfl,h⟩]
     simp only [Bool.and_false,Xo]
    | _=>rfl
   rw [hbf] at this
   refine ifT ?_ this
   rw [hin]
   rfl
  obtain⟨kd,rfl,hkd⟩:=hkd
  cases m1
  have hbd:ck ks ts fs [.str xn,.str kd,d2] S=bZ ks ts fs d2 (S.put xn kd):=by
   rw [gi,hxn,show ks.contains kd=true from by simpa using hkd]
   simp
  refine ifF ?_ ?_
  ·rw [cF,decide_eq_true hkd]
   decide
  rw [hbd] at q
  obtain⟨kvs,e1,el,e2⟩:=hS.same s1
  refine⟨_,rfl,m,kvs,rfl,e1,fun d hd'=>?_⟩
  have s3:=ad hd' (.dK kvs)
  have s13:=s1.trans s3
  refine⟨_,rfl,bV (hL.same s13).sq (aK (x:=V.str kd) (by decide) rfl) ⟨_,rfl,_,rfl,bV (hL.same s13).sq (aK (x:=V.str xn) (by decide) rfl) ⟨d,_,rfl,oO.k (k:=.inr xn) aa (YI (show kvs.length≤100 by omega) (by decide)),?_⟩⟩⟩
  obtain⟨s4,eS⟩:=vN e2 el hd' xn kd
  generalize (upd (upd H1 d (.dK kvs)) d (.dK (cr kvs (.inr xn) (.str kd))))=H4 at s4 eS
  have s04:=s1.trans s4
  exact⟨_,rfl,_,rfl,bV (hL.same s04).sq (aK (x:=vc) (by decide) rfl) ⟨_,rfl,b,d,vc,ks,ts,fs,S.put xn kd,bb+1,d2,rfl,hb.same s04,ok,Rd0.same m2 s04,fJ (i:=2) htx rfl,eS,by omega,by omega,by omega,fun H5 s5=>q H5 (s04.trans s5)⟩⟩
def ss:Nat→Sp
 | 0=>fun _ _ _ _=>False
 | n+1=>spIs n
def sv:Nat→Sp
 | 0=>fun _ _ _ _=>False
 | n+1=>spBd n
theorem su{m:Nat}{vs:List V}{H:Hp}{Q:VK}{E:XK}(h:spBd m vs H Q E):sv (m+1) vs H Q E:=h
theorem lV(F:ah K mg "_law_is_saying" bj lA0)(Z:Bl mg)(D_law_sign:Def P w K mg base "_law_sign" 1 lB3 iD)(n:Nat)
  (D_law_kind_of:Def P w K mg base "_law_kind_of" (2*n+2) lA0 (spKo n)) (D_law_terms:Def P w K mg base "_law_terms" (2*n+3) lA2 (spTms n))
  (D_law_is_saying:Def P w K mg base "_law_is_saying" (2*n+2) lA0 (ss n)) (D_law_bound:Def P w K mg base "_law_bound" (2*n+3) lA0 (sv n)) :
  Def P w K mg base "_law_is_saying" (2*n+4) lA0 (spIs n):=by
 have SC:=zc7
 refine F.mk' (k:=2*n+3) zc7 (fun vs H Q E h=>?_) (fun f cdv A outer s H vs Q E hr h=>?_)
 ·obtain⟨b,m,v,ks,ts,fs,S,bb,d,rfl,_⟩:=h
  rfl
 ·obtain⟨b,m,v,ks,ts,fs,S,bb,d,rfl,hb,ok,hv,htx,hS,hbb,hd,hw,q⟩:=h
  refine'⟨_,?dv,?_⟩
  case dv=>(have:=af 27 329 16 29; have:=af 2 327 7 34; have:=af 10 339 31 48; have:=af 2 327 67 97; have:=af 10 340 81 98; have:=af 27 327 78 91; have:=af 34 331 94 108; have:=af 27 334 71 84; have:=af 34 336 94 108; have:=bG 336 19 109 1 lB6; have:=af 8 331 94 108; have:=af 8 336 94 108; have:=bG 331 8 109 1 lB6; walk_at "S2")
  have none_of:cR d=none→∀ H',Same H H'→Q (.bl false) H':=fun e H' s'=>by
   have:=q H' s'
   rw [gr e] at this
   exact this
  obtain⟨ty,hty,hk⟩:=(Rd0.sh hv).isS (K:=K)
  refine⟨_,rfl,_,ty,_,rfl,hty,hk,_,rfl,?_⟩
  by_cases hx:∃ z,d=.str z
  ·obtain⟨x0,rfl⟩:=hx
   cases hv
   exact ifT rfl (ifT rfl (none_of rfl _ (Same.refl _)))
  have hs:∀ z,d≠.str z:=fun z e=>hx ⟨z,e⟩
  have hst:cY v=false:=by cases hv <;> first | rfl | exact absurd rfl (hs _)
  obtain⟨ds,hkd,htxs⟩:=lq htx hs
  obtain⟨a,xs,rfl,hL,hm⟩:=hv.row hkd
  refine ifF (by rw [hst]; decide) ⟨_,rfl,a,_,rfl,hL.sq,rfl,_,rfl,?_⟩
  cases hm with
  | nil=>
   have hwn:cR d=none:=by cases d <;> first | rfl | (cases hkd; rfl) | cases hkd
   exact ifT rfl (ifT rfl (none_of hwn _ (Same.refl _)))
  | @cons x xs' d0 ds' h0 hm'=>
  obtain⟨ty3,hty3,hk3⟩:=(Rd0.sh h0).isS (K:=K)
  refine ifF (by simp; omega) ⟨_,rfl,bV hL.sq (aK (x:=x) (by decide) rfl) ⟨_,_,_,rfl,hty3,hk3,_,rfl,?_⟩⟩
  by_cases hz:∃ z,d0=.str z
  rotate_left
  ·have hwn:cR d=none:=by
    cases d <;> first | rfl | (cases hkd; cases d0 <;> first | rfl | exact absurd ⟨_,rfl⟩ hz)
   have hs0:cY x=false:=by cases h0 <;> first | rfl | exact absurd ⟨_,rfl⟩ hz
   rw [hs0]
   exact ifT rfl (none_of hwn _ (Same.refl _))
  obtain⟨w0,rfl⟩:=hz
  cases h0
  have hwt:cR d=some (w0,ds'):=by cases d <;> first | (cases hkd; rfl) | cases hkd
  have hdp:=eC hwt
  have hsd:=oU (ks:=ks) (ts:=ts) (fs:=fs) (S:=S) hwt
  have ml:=aP.length hm'
  have htx':cS ds'=true:=by rw [cS,YK] at htxs; exact htxs.2
  have hwA:YE ds'≤100000:=by
   obtain⟨_,bw⟩:=kO (n:=n) hkd (by omega) hw
   rw [YE] at bw
   omega
  have wl:=io ds'
  obtain⟨n,rfl⟩:∃ m',n=m'+1:=⟨n-1,by omega⟩
  rw [hsd] at q
  refine ifF (show ¬ (!cY (V.str w0))=true from Yt) ?_
  refine⟨_,rfl,bV hL.sq (aK (x:=V.str w0) (by decide) rfl) ?_⟩
  refine⟨_,rfl,rfl,_,rfl,?_⟩
  by_cases hw1:w0="="
  ·refine ifT (decide_eq_true (by rw [hw1])) ?_
   subst hw1
   rw [show di ks ts fs (.str "="::ds') S=eqD fs S ds' from rfl] at q
   refine lN hL rfl fun p o J hp0 O cl C ex s0 Hc=>O.comp (fun i ys H2=>Same (upd H p o) H2∧ys=(ds'.take i).map fun d=>gz (aO fs S d)) ⟨Same.refl _,rfl⟩ (Yn (show xs'.length≤100000 by omega) (by decide)) (fun i ys H2 _ h2 o' e=>h2.1 _ _ e) ?_ ?_
   ·rintro i y ys H2 hy yl ⟨s2,rfl⟩
    obtain⟨d',hd',hmt⟩:=aP.get hm' hy
    have dt:=cZ hd'
    have wt:=iq hd'
    have s02:=(ad hp0 o).trans s2
    refine⟨_,rfl,_,rfl,_,rfl,b,m,y,ks,ts,fs,S,d',rfl,hb.same s02,ok,Rd0.same hmt s02,fJ htx' hd',(hS.same s02).at (by omega),by omega,by omega,fun H3 s3=>⟨s2.trans s3,?_⟩⟩
    rw [YL,hd',Yz]; rfl
   ·rintro ys H2 yl ⟨s2,rfl⟩ D hD
    rw [ml,YQ]
    have s3:=ad hD (.lst (ds'.map fun d=>gz (aO fs S d)))
    have s03:=((ad hp0 o).trans s2).trans s3
    have qq:=q _ s03
    refine⟨_,rfl,D,_,rfl,.inl (SqL.of aa),rfl,_,rfl,?_⟩
    by_cases h2:ds'.length=2
    rotate_left
    ·rw [zo h2] at qq
     exact ifF (by simp; omega) qq
    obtain⟨da,db,rfl⟩:=Few.le2 h2
    refine ifT (by simp) ⟨_,rfl,D,_,0,gz (aO fs S da),rfl,rfl,SqL.of aa,rfl,rfl,_,rfl,?_⟩
    cases hka:aO fs S da with
    | none=>
     rw [eqD,hka] at qq
     exact ifF (by simp [gz]) qq
    | some k=>
     rw [eqD,hka] at qq
     refine ifT (by simp [gz]) ⟨_,rfl,D,_,0,gz (aO fs S da),rfl,rfl,SqL.of aa,rfl,_,rfl,D,_,1,gz (aO fs S db),rfl,rfl,SqL.of aa,rfl,?_,?_⟩
     ·rw [hka]; cases aO fs S db <;> rfl
     ·rw [hka,vj]; exact qq
  refine ifF (by simp; exact hw1) ?_
  have sub:∀ {H':Hp} {y:V} {d':PyData} {i:Nat} {R:VK},xs'[i]? = some y→ds'[i]? = some d'→Same H H'→Rd0 H' y d'→(∀ H'',Same H' H''→R (.bl (bZ ks ts fs d' S)) H'')→ss (n+1) [.ref b,y,.ref m] H' R E0:=fun {H' y d' i R} hy hd' s' hmt k=>by
   have dt:=cZ hd'
   have wt:=iq hd'
   exact⟨b,m,y,ks,ts,fs,S,bb,d',rfl,hb.same s',ok,hmt,fJ htx' hd',hS.same s',by omega,by omega,by omega,k⟩
  refine⟨_,rfl,rfl,_,rfl,?_⟩
  by_cases hw2:w0="not"
  ·refine ifT (decide_eq_true (by rw [hw2])) ?_
   subst hw2
   rw [show di ks ts fs (.str "not"::ds') S=(ds'.length==1&&dW ks ts fs ds' S) from rfl] at q
   refine⟨_,rfl,a,_,rfl,hL.sq,rfl,_,rfl,?_⟩
   by_cases h1:ds'.length=1
   rotate_left
   ·have:=q H (Same.refl _)
    rw [show (ds'.length==1)=false from beq_eq_false_iff_ne.mpr h1] at this
    exact ifF (by simp; omega) this
   obtain⟨da,rfl⟩:=Few.le1 h1
   obtain⟨va,rfl⟩:=Few.le1 ml
   cases hm' with
   | cons ma _=>
   refine ifT (by simp) ⟨_,rfl,_,rfl,bV hL.sq (aK (x:=va) (by decide) rfl) ⟨_,rfl,?_⟩⟩
   unfold eY
   refine sub (i:=0) rfl rfl (Same.refl _) ma fun H2 s2=>?_
   have:=q H2 s2
   rw [show ([da].length==1&&dW ks ts fs [da] S)=(bZ ks ts fs da S&&true) from rfl,Bool.and_true] at this
   exact this
  refine ifF (by simp; exact hw2) ⟨_,rfl,rfl,_,rfl,?_⟩
  by_cases hw3:w0="and"∨w0="or"
  ·refine fZ ?body (fun _ h=>ifT rfl h) (fun hne h=>⟨_,rfl,rfl,_,rfl,ifT (decide_eq_true (by rcases hw3 with e | e; exact absurd (decide_eq_true (by rw [e])) hne; rw [e])) h⟩)
   rw [jC (by rcases hw3 with e | e <;> simp [e]) (fun e=>absurd e hw2),all_map] at q
   refine lN hL rfl fun p o J hp0 O cl C ex s0 Hc=>O.comp (fun i ys H2=>Same (upd H p o) H2∧ys=((ds'.take i).map fun d=>bZ ks ts fs d S).map V.bl) ⟨Same.refl _,rfl⟩ (Yn (show xs'.length≤100000 by omega) (by decide)) (fun i ys H2 _ h2 o' e=>h2.1 _ _ e) ?_ ?_
   ·rintro i y ys H2 hy yl ⟨s2,rfl⟩
    obtain⟨d',hd',hmt⟩:=aP.get hm' hy
    have s02:=(ad hp0 o).trans s2
    refine⟨_,rfl,_,rfl,_,rfl,?_⟩
    unfold eY
    refine sub hy hd' s02 (Rd0.same hmt s02) fun H3 s3=>⟨s2.trans s3,?_⟩
    rw [YL,hd',Yz,Yz]; rfl
   ·rintro ys H2 yl ⟨s2,rfl⟩ D hD
    rw [ml,YQ]
    exact⟨D,_,rfl,SqL.of aa,q _ (((ad hp0 o).trans s2).trans (ad hD _))⟩
  refine ifF (fun e=>hw3 (.inl (V.str.inj (of_decide_eq_true e)))) ⟨_,rfl,rfl,_,rfl,ifF (fun e=>hw3 (.inr (V.str.inj (of_decide_eq_true e)))) ⟨_,rfl,rfl,_,rfl,?_⟩⟩
  by_cases hw4:w0="all"∨w0="some"
  ·refine fZ ?body2 (fun _ h=>ifT rfl h) (fun hne h=>⟨_,rfl,rfl,_,rfl,ifT (decide_eq_true (by rcases hw4 with e | e; exact absurd (decide_eq_true (by rw [e])) hne; rw [e])) h⟩)
   rw [jD (by rcases hw4 with e | e <;> simp [e])] at q
   refine⟨_,rfl,_,rfl,_,rfl,?_⟩
   unfold eY
   exact su (E:=E0) ⟨b,a,m,.str w0,xs',ks,ts,fs,S,bb,ds',rfl,hb,ok,hL,hm',htx',hS,by omega,by omega,hwA,fun H2 s2=>q H2 s2⟩
  refine ifF (fun e=>hw4 (.inl (V.str.inj (of_decide_eq_true e)))) ⟨_,rfl,rfl,_,rfl,ifF (fun e=>hw4 (.inr (V.str.inj (of_decide_eq_true e)))) ?_⟩
  rw [lF hw1 (by simp; exact⟨hw2,fun e=>hw3 (.inl e),fun e=>hw3 (.inr e)⟩) (by simp; exact⟨fun e=>hw4 (.inl e),fun e=>hw4 (.inr e)⟩)] at q
  obtain⟨kA,tA,fA,tv,fv,b1,k1,t1,t2,f1,f2⟩:=hb.open
  refine⟨_,rfl,b,_,_,_,rfl,rfl,SqT.of b1,rfl,_,rfl,.inl ⟨tA,tv,ts,w0,rfl,t1,t2,fun ht=>?_,fun ps pl p ht ep epl=>?_⟩⟩
  ·have:=q H (Same.refl _)
   rw [ht] at this
   exact⟨_,rfl,rfl,_,rfl,ifF (by simp) this⟩
  ·obtain⟨t0,ht0,_,rfl⟩:=jx ht
   refine⟨_,rfl,rfl,_,rfl,ifT (by simp) ⟨_,rfl,_,rfl,_,rfl,p,_,_,_,rfl,rfl,SqT.of ep,rfl,_,rfl,b,a,pl,m,.str w0,xs',ks,ts,fs,S,ds',t0.ps,rfl,hb,ok,hL,hm',htx',epl,(ok.tn t0 ht0).2.1,hS.at (by omega),by omega,hwA,fun H2 s2=>?_⟩⟩
   have:=q H2 s2
   rw [ht] at this
   exact this
theorem y4(F:ah K mg "_law_is_saying" bj lA0):Def P w K mg base "_law_is_saying" 2 lA0 (ss 0):=
 F.mk' (k:=1) zc7 (fun vs H Q E h=>False.elim h) fun f cdv A outer s H vs Q E hr h=>False.elim h
theorem y8(F:ah K mg "_law_bound" cC lA0):Def P w K mg base "_law_bound" 3 lA0 (sv 0):=
 F.mk' (k:=2) zc6 (fun vs H Q E h=>False.elim h) fun f cdv A outer s H vs Q E hr h=>False.elim h
theorem uo(F1:ah K mg "_law_is_saying" bj lA0)(F2:ah K mg "_law_bound" cC lA0)(Z:Bl mg)(n_dict:mg "dict"=none)(D_law_sign:Def P w K mg base "_law_sign" 1 lB3 iD)(D_law_name:Def P w K mg base "_law_name" 1 lA7 spNameE)
  (ko:∀ n,Def P w K mg base "_law_kind_of" (2*n+2) lA0 (spKo n)∧Def P w K mg base "_law_terms" (2*n+3) lA2 (spTms n)) :
  ∀ n,Def P w K mg base "_law_is_saying" (2*n+4) lA0 (spIs n)
 | 0=>lV F1 Z D_law_sign 0 (ko 0).1 (ko 0).2 (y4 F1) (y8 F2)
 | n+1=>
  have ih:=uo F1 F2 Z n_dict D_law_sign D_law_name ko n
  lV F1 Z D_law_sign (n+1) (ko (n+1)).1 (ko (n+1)).2 ih (ut F2 Z n_dict D_law_name n (2*n+3) ih)
end
mutual
theorem rQ:∀ t:Tr,m8 (tuD t)=true
 | .leaf x=>rfl
 | .node ts=>by rw [tuD,m8,oV ts]
theorem oV:∀ ts:List Tr,cS (cm ts)=true
 | []=>rfl
 | t::ts=>by rw [cm,cS,rQ t,oV ts]; rfl
end
theorem rW{H:Hp}{u:V}{t:Tr}(h:Rd0 H u (tuD t)):u≠.non:=by
 rintro rfl
 cases t <;> (rw [tuD] at h; cases h)
section
abbrev e7:Stmt:=top 63
theorem zc8:aj ["_law_book_here","_law_text","_law_thing"] lC0 (ag e7):=by walk_at "F"
inductive spLRead(vs:List V)(H:Hp)(Q:VK)(e3_:XK):Prop | mk (b:Addr) (x:Str) (ks:List Str) (ts:List ar) (fs:List am) (_:vs=[.ref b,.str x]) (_:BkR H b ks ts fs) (_:aV ks ts fs) (_:x.length≤30000) (_:Bal 14 x.cps.toList) (_:(∀ t,cj ks ts fs x=some t→∀ u H',Rd0 H' u (tuD t)→Same H H'→Q u H')) (_:(cj ks ts fs x=none→∀ H',Same H H'→Q .non H'))
theorem uh(F:ah K mg "_law_read" e7 lC0)(Z:Bl mg)(D_law_nested:Def P w K mg base "_law_nested" 1 lD6 spNest)(D_law_written:Def P w K mg base "_law_written" (14+2) lA7 (spWr 14))(D_law_is_saying:Def P w K mg base "_law_is_saying" (2*14+4) lA0 (spIs 14)):Def P w K mg base "_law_read" 33 lC0 spLRead:=by
 have SC:=zc8
 refine F.mk' (k:=32) zc8 (fun vs H Q E h=>?_) (fun f cdv A outer s H vs Q E hr h=>?_)
 ·obtain⟨b,x,ks,ts,fs,rfl,_⟩:=h
  rfl
 ·obtain⟨b,x,ks,ts,fs,rfl,hb,ok,hx,hB,yes,no⟩:=h
  refine'⟨_,?dv,?_⟩
  case dv=>(walk_at "S2")
  refine⟨_,rfl,x,rfl,by omega,fun t ht u H1 tu s1=>?_,fun hb0 H1 s1=>?_⟩
  rotate_left
  ·exact⟨_,rfl,rfl,_,rfl,ifT rfl (ifT rfl (no (by unfold cj; rw [hb0]) _ s1))⟩
  have dt:=ie ht hB
  have wt:=kZ ht
  obtain⟨l1,l2,l3,l4⟩:=gF t
  have rd:cj ks ts fs x=if bZ ks ts fs (lsD t) S0&&decide (wr t=x) then some t else none:=by unfold cj; rw [ht]
  have ww:=xG t
  refine⟨_,rfl,rfl,_,rfl,ifF (by simpa using rW tu) ?_⟩
  refine⟨_,rfl,u,t,rfl,nM tu,dt,by omega,fun H2 s2=>⟨_,rfl,rfl,_,rfl,?_⟩⟩
  have s12:=s1.trans s2
  by_cases hw:wr t=x
  rotate_left
  ·exact ifT (by simp [hw]) (ifT rfl (no (by rw [rd,decide_eq_false hw,Bool.and_false]; rfl) _ s12))
  refine ifF (by simp [hw]) ?_
  refine⟨_,rfl,_,rfl,fun m hm=>?_⟩
  have s3:=ad hm (.dK [])
  have s03:=s12.trans s3
  refine⟨b,m,u,ks,ts,fs,S0,0,tuD t,rfl,hb.same s03,ok,Rd0.same tu (s2.trans s3),rQ t,⟨[],aa,Yg _,fun _=>rfl⟩,by decide,by omega,by omega,fun H4 s4=>⟨_,rfl,?_⟩⟩
  rw [← nH]
  have s04:=s03.trans s4
  cases hy:bZ ks ts fs (lsD t) S0 with
  | true=>exact ifF (by simp) ⟨_,rfl,yes t (by rw [rd,hy,decide_eq_true hw]; rfl) u H4 (Rd0.same tu ((s2.trans s3).trans s4)) s04⟩
  | false=>exact ifT rfl (no (by rw [rd,hy]; rfl) _ s04)
end
section
abbrev cb:Stmt:=top 65
theorem zc9:aj ["_law_thing","_law_inner"] lA7 (ag cb):=by walk_at "F"
inductive spWin(n:Nat)(vs:List V)(H:Hp)(Q:VK)(e3_:XK):Prop | mk (v:V) (d:PyData) (_:vs=[v]) (_:Rd0 H v d) (_:d.depth≤n) (_:d.weight≤100000) (_:∀ (i:Int) H',Same H H'→Q (.int i) H')
def nv:Nat→Sp
 | 0=>fun _ _ _ _=>False
 | n+1=>spWin n
theorem qp{m:Nat}{vs:List V}{H:Hp}{Q:VK}{E:XK}(h:spWin m vs H Q E):nv (m+1) vs H Q E:=h
theorem jJ(F:ah K mg "_law_within" cb lA7)(Z:Bl mg)(n:Nat)(D_law_within:Def P w K mg base "_law_within" (n+1) lA7 (nv n)):Def P w K mg base "_law_within" (n+2) lA7 (spWin n):=by
 have SC:=zc9
 refine F.mk' (k:=n+1) zc9 (fun vs H Q E h=>?_) (fun f cdv A outer s H vs Q E hr h=>?_)
 ·obtain⟨v,d,rfl,_⟩:=h
  rfl
 ·obtain⟨v,d,rfl,hv,hd,hw,q⟩:=h
  refine'⟨_,?dv,?_⟩
  case dv=>(have:=af 37 362 17 78; have:=af 1 360 11 48; have:=af 25 362 21 77; have:=af 38 363 52 84; have:=af 27 363 52 65; have:=bG 362 27 77 1 ["_law_one","_law_thing","_law_inner"]; have:=af 8 362 66 76; have:=af 39 363 52 84; walk_at "S2")
  refine⟨_,rfl,by show 2≤sizeLine; decide,fun t ht=>?_⟩
  have st:=ad ht (.tup [.ty "list",.ty "tuple"])
  obtain⟨ty2,hty2,hk2⟩:=((Rd0.sh hv).same st).isi2 (K:=K)
  rw [(Rd0.sh hv).rows st,hv.rows] at hk2
  refine⟨_,t,ty2,_,rfl,aa,hty2,hk2,?_⟩
  generalize (upd H t (.tup [.ty "list",.ty "tuple"]))=H1 at st
  cases hkd:jP d with
  | none=>exact⟨_,rfl,ifT rfl (q _ _ st)⟩
  | some ds=>
  obtain⟨a,xs,rfl,hL,hm⟩:=hv.row hkd
  have hL1:=hL.same st
  obtain⟨m,rfl⟩:∃ m,n=m+1:=⟨n-1,by cases d <;> first | (rw [XB] at hd; omega) | cases hkd⟩
  obtain⟨bd,bw⟩:=kO hkd hd hw
  have ml:=aP.length hm
  have wl:=io ds
  refine⟨_,rfl,ifF (by simp) ⟨by show 1≤sizeLine; decide,fun l1 hl1=>?_⟩⟩
  have s1:=st.trans (ad hl1 (.lst [.int 0]))
  have e1:(upd H1 l1 (.lst [.int 0])) l1=some (.lst [.int 0]):=aa
  generalize (upd H1 l1 (.lst [.int 0]))=H2 at s1 e1
  refine LT.over (K:=K) (hL.same s1) rfl fun J O cl C1 ex s0 Hc=>O.comp (fun i ys H3=>Same H2 H3∧∃ ns:List Int,ys=ns.map V.int) ⟨Same.refl _,[],rfl⟩ (Yn (show xs.length≤100000 by omega) (by decide)) (fun i ys H3 _ h3 o e=>h3.1 _ _ e) ?_ ?_
  ·rintro i y ys H3 hy yl ⟨s3,ns,rfl⟩
   obtain⟨d',hd',hmt⟩:=aP.get hm hy
   have dt:=cZ hd'
   have wt:=iq hd'
   refine⟨_,rfl,?_⟩
   unfold eY
   refine qp (E:=E0) ⟨y,d',rfl,Rd0.same hmt (s1.trans s3),by omega,by omega,fun i H4 s4=>⟨s3.trans s4,ns++[i],?_⟩⟩
   rw [Yz]; rfl
  ·rintro ys H3 yl ⟨s3,ns,rfl⟩ D hD
   have s4:=s3.trans (ad hD (.lst (ns.map V.int)))
   refine⟨l1,D,[.int 0],ns.map V.int,rfl,rfl,s4 _ _ e1,aa,Yn (show 1+(ns.map V.int).length≤100001 by omega) (by decide),fun L hL'=>?_⟩
   have s5:=s4.trans (ad hL' (.lst ([.int 0]++ns.map V.int)))
   refine⟨L,0::ns,rfl,SqL.of aa,by simp,fun mx _=>?_⟩
   have s05:=s1.trans s5
   have hL5:=hL.same s05
   generalize (upd (upd H3 D (.lst (ns.map V.int))) L (.lst ([.int 0]++ns.map V.int)))=H5 at s05 hL5
   refine⟨_,rfl,_,rfl,a,_,rfl,hL5.sq,_,_,rfl,rfl,_,rfl,?_⟩
   cases hm with
   | nil=>exact ifF (by simp) (.inr ⟨false,rfl,_,_,rfl,rfl,q _ _ s05⟩)
   | @cons x xs' d0 ds' h0 hm'=>
   refine ifT (by simp) ⟨_,rfl,bV hL5.sq (aK (x:=x) (by decide) rfl) ⟨by show 2≤sizeLine; decide,fun t2 ht2=>?_⟩⟩
   have s6:=s05.trans (ad ht2 (.tup [.str "all",.str "some"]))
   exact⟨t2,lD2,rfl,SqT.of aa,Rd0.noS (Rd0.same h0 s6),.inr ⟨_,rfl,_,_,rfl,rfl,q _ _ s6⟩⟩
theorem wG(F:ah K mg "_law_within" cb lA7):Def P w K mg base "_law_within" 1 lA7 (nv 0):=
 F.mk' (k:=0) zc9 (fun vs H Q E h=>False.elim h) fun f cdv A outer s H vs Q E hr h=>False.elim h
theorem tX(F:ah K mg "_law_within" cb lA7)(Z:Bl mg):∀ n,Def P w K mg base "_law_within" (n+2) lA7 (spWin n)
 | 0=>jJ F Z 0 (wG F)
 | n+1=>jJ F Z (n+1) (tX F Z n)
end
theorem zda:LD "FewError":=by decide +kernel
theorem zdb:LD "NoNaming":=by decide +kernel
theorem zdc:LD "NoPart":=by decide +kernel
theorem zdd:LD "NoRow":=by decide +kernel
theorem zde:LD "NoSigns":=by decide +kernel
theorem zdf:LD "NoSize":=by decide +kernel
theorem zdg:LD "NoText":=by decide +kernel
theorem zdh:LD "NoWorld":=by decide +kernel
theorem zdi:LD "TooMany":=by decide +kernel
theorem zdj:LD "ValueError":=by decide +kernel
theorem zdk:LM "ValueError":=by decide +kernel
theorem zdl:LD "_law_e":=by decide +kernel
theorem zdm:LS "_law_e":=by decide +kernel
theorem zdn:LD "_law_just":=by decide +kernel
theorem zdo:LD "_law_signs":=by decide +kernel
theorem zdp:LS "_law_signs":=by decide +kernel
theorem zdq:LD "_law_thing":=by decide +kernel
theorem zdr:LS "_law_thing":=by decide +kernel
theorem zds:LD "_law_told_here":=by decide +kernel
theorem zdt:LS "_law_told_here":=by decide +kernel
theorem zdu:LD "isinstance":=by decide +kernel
theorem zdv:LM "isinstance":=by decide +kernel
theorem zdw:LD "read_saying":=by decide +kernel
theorem jq:bootBuiltins "ValueError"=some (.type "ValueError"):=by decide +kernel
structure Xs(K:XC)(C fe:Addr)(ds:List Addr):Prop where
 look:cA K C
 ve:PySem.W.kitOne K (.ref C) (.type "ValueError")=some true
 few:PySem.W.kitOne K (.ref C) (.ref fe)=some true
 oth:PySem.W.kitAny K (.ref C) (ds.map Value.ref)=some false
 up:PySem.W.mroIn K C (.ref C)=some true
def EcT(N:Addr)(H:Hp)(bad:Prop):XK:=fun cls _ H1=>cls=.ref N∧Same H H1∧bad
abbrev g6:PyData:=.tuple [.str "refused",.bool true]
def gZ(ks:List Str)(ts:List ar)(fs:List am):V→PyData
 | .str x=>match cj ks ts fs x with
  | some t=>.tuple [.str "told",tuD t]
  | none=>g6
 | _=>g6
theorem kD{ks:List Str}{ts:List ar}{fs:List am}{x:Str}{t:Tr}(h:cj ks ts fs x=some t):gZ ks ts fs (.str x)=.tuple [.str "told",tuD t]:=by
 show (match cj ks ts fs x with | some t=>PyData.tuple [.str "told",tuD t] | none=>g6)=_
 rw [h]
theorem iM{ks:List Str}{ts:List ar}{fs:List am}{x:Str}(h:cj ks ts fs x=none):gZ ks ts fs (.str x)=g6:=by
 show (match cj ks ts fs x with | some t=>PyData.tuple [.str "told",tuD t] | none=>g6)=_
 rw [h]
theorem kE{ks:List Str}{ts:List ar}{fs:List am}{v:V}(h:∀ x,v≠.str x):gZ ks ts fs v=g6:=by
 cases v with
 | str x=>exact absurd rfl (h x)
 | _=>rfl
structure OkV(H:Hp)(v:V):Prop where
 sh:Sh H v
 len:∀ x,v=.str x→x.length≤30000
 bal:∀ x,v=.str x→Bal 14 x.cps.toList
section
abbrev aA:Stmt:=top 66
theorem zdx:aj lE0 lE0 (ag aA):=⟨rfl,rfl,rfl,by decide +kernel,rfl,by decide +kernel,by decide +kernel⟩
theorem zdy:LN .globalImplicit aA "FewError":=by decide +kernel
theorem zdz:LN .globalImplicit aA "NoNaming":=by decide +kernel
theorem zd0:LN .globalImplicit aA "NoPart":=by decide +kernel
theorem zd1:LN .globalImplicit aA "NoRow":=by decide +kernel
theorem zd2:LN .globalImplicit aA "NoSigns":=by decide +kernel
theorem zd3:LN .globalImplicit aA "NoSize":=by decide +kernel
theorem zd4:LN .globalImplicit aA "NoText":=by decide +kernel
theorem zd5:LN .globalImplicit aA "NoWorld":=by decide +kernel
theorem zd6:LN .globalImplicit aA "TooMany":=by decide +kernel
theorem zd7:LN .globalImplicit aA "ValueError":=by decide +kernel
theorem zd8:LN .local aA "_law_e":=by decide +kernel
theorem zd9:LN .globalImplicit aA "isinstance":=by decide +kernel
inductive spJust(C:Addr)(vs:List V)(H:Hp)(Q:VK)(e3_:XK):Prop | mk (a dx) (_:vs=[.ref a]) (_:H a=some (oN C a dx)) (_:∀ H',Same H H'→Q (.bl true) H')
theorem wP{C fe x1 x2 x3 x4 x5 x6 x7 x8:Addr}(F:ah K mg "_law_just" aA lE0)(Z:Bl mg)(n_ValueError:mg "ValueError"=none)(T:Xs K C fe [x1,x2,x3,x4,x5,x6,x7,x8])
  (g_FewError:mg "FewError"=some (.ref fe)) (g_NoNaming:mg "NoNaming"=some (.ref x1)) (g_NoPart:mg "NoPart"=some (.ref x2)) (g_NoRow:mg "NoRow"=some (.ref x3)) (g_NoSigns:mg "NoSigns"=some (.ref x4)) (g_NoSize:mg "NoSize"=some (.ref x5)) (g_NoText:mg "NoText"=some (.ref x6)) (g_NoWorld:mg "NoWorld"=some (.ref x7)) (g_TooMany:mg "TooMany"=some (.ref x8)) :
  xF P w K mg base "_law_just" 1 lE0 (spJust C):=by
 have SC:=zdx
 have r_FewError:aq (.ref fe) (.ref fe):=rfl
 have r_NoNaming:aq (.ref x1) (.ref x1):=rfl
 have r_NoPart:aq (.ref x2) (.ref x2):=rfl
 have r_NoRow:aq (.ref x3) (.ref x3):=rfl
 have r_NoSigns:aq (.ref x4) (.ref x4):=rfl
 have r_NoSize:aq (.ref x5) (.ref x5):=rfl
 have r_NoText:aq (.ref x6) (.ref x6):=rfl
 have r_NoWorld:aq (.ref x7) (.ref x7):=rfl
 have r_TooMany:aq (.ref x8) (.ref x8):=rfl
 refine F.mkU (k:=0) zdx (fun vs H Q E h=>?_) (fun f cdv A outer s H vs Q E hr h=>?_)
 ·obtain⟨a,dx,rfl,_⟩:=h
  rfl
 ·obtain⟨a,dx,rfl,ha,q⟩:=h
  refine'⟨_,?dv,?_⟩
  case dv=>refine' cD ?Aa ?Ba;(case Aa=>refine' iQ ?Ca ?Da fU;(case Ca=>refine' PW.pt ?Ea;case Ea=>refine' sV ?Fa ?Ga;(case Fa=>refine' kF ?Ha;case Ha=>refine' nO ?Ia ?Ja;(case Ia=>refine' bo (hn:=zdv) (hdb:=zdu) j4 zd9 Z.n_isinstance bR ?Ka rfl rfl;case Ka=>refine' aw (pq 0 (dn zd8) zdl zdm) ?La ?Ma;(case La=>refine' aw ?Na be ?Oa;(case Na=>refine' eJ (v:=V.ty "ValueError") (hn:=zdk) (hd:=zdj) zd7 n_ValueError jq rfl);case Oa=>rfl);case Ma=>rfl);case Ja=>intro _; rfl);case Ga=>refine' nN ?Pa;case Pa=>refine' kF ?Qa;case Qa=>refine' nO ?Ra ?Sa;(case Ra=>refine' bo (hn:=zdv) (hdb:=zdu) j4 zd9 Z.n_isinstance bR ?Ta rfl rfl;case Ta=>refine' aw (pq 0 (dn zd8) zdl zdm) ?Ua ?Va;(case Ua=>refine' aw ?Wa be ?Xa;(case Wa=>refine' cy (hd:=zda) zdy g_FewError r_FewError);case Xa=>rfl);case Va=>rfl);case Sa=>intro _; rfl);case Da=>refine' ba ?Ya;case Ya=>refine' iO ?Za;case Za=>exact xP);case Ba=>refine' ba ?Ab;case Ab=>refine' iO ?Bb;case Bb=>refine' tG ?Cb;case Cb=>refine' bo (hn:=zdv) (hdb:=zdu) oE zd9 Z.n_isinstance bR ?Db rfl rfl;case Db=>refine' aw (pq 0 (dn zd8) zdl zdm) ?Eb ?Fb;(case Eb=>refine' aw ?Gb be ?Hb;(case Gb=>refine' kH ?Ib;case Ib=>refine' aw ?Jb ?Kb ?Lb;(case Jb=>refine' cy (hd:=zdb) zdz g_NoNaming r_NoNaming);(case Kb=>refine' aw ?Mb ?Nb ?Ob;(case Mb=>refine' cy (hd:=zdc) zd0 g_NoPart r_NoPart);(case Nb=>refine' aw ?Pb ?Qb ?Rb;(case Pb=>refine' cy (hd:=zdd) zd1 g_NoRow r_NoRow);(case Qb=>refine' aw ?Sb ?Tb ?Ub;(case Sb=>refine' cy (hd:=zde) zd2 g_NoSigns r_NoSigns);(case Tb=>refine' aw ?Vb ?Wb ?Xb;(case Vb=>refine' cy (hd:=zdf) zd3 g_NoSize r_NoSize);(case Wb=>refine' aw ?Yb ?Zb ?Ac;(case Yb=>refine' cy (hd:=zdg) zd4 g_NoText r_NoText);(case Zb=>refine' aw ?Bc ?Cc ?Dc;(case Bc=>refine' cy (hd:=zdh) zd5 g_NoWorld r_NoWorld);(case Cc=>refine' aw ?Ec be ?Fc;(case Ec=>refine' cy (hd:=zdi) zd6 g_TooMany r_TooMany);case Fc=>rfl);case Dc=>rfl);case Ac=>rfl);case Xb=>rfl);case Ub=>rfl);case Rb=>rfl);case Ob=>rfl);case Lb=>rfl);case Hb=>rfl);case Fb=>rfl
  refine⟨_,rfl,a,C,dx,_,_,true,rfl,rfl,ha,T.look,T.ve,true,rfl,cX ?_⟩
  refine⟨_,rfl,a,C,dx,_,_,true,rfl,rfl,ha,T.look,T.few,true,rfl,cX ?_⟩
  refine⟨_,rfl,by show 8≤sizeLine; decide,fun t ht=>?_⟩
  have st:=ad ht (.tup [.ref x1,.ref x2,.ref x3,.ref x4,.ref x5,.ref x6,.ref x7,.ref x8])
  exact⟨a,C,t,dx,[x1,x2,x3,x4,x5,x6,x7,x8],false,rfl,aa,st _ _ ha,T.look,T.oth,_,rfl,q _ st⟩
abbrev aZ:Stmt:=top 67
theorem zea:aj ["_law_signs","_law_thing","_law_told_here","_law_e"] lC4 (ag aZ):=⟨rfl,rfl,rfl,by decide +kernel,rfl,by decide +kernel,by decide +kernel⟩
theorem zeb:LN .globalImplicit aZ "NoSaying":=by decide +kernel
theorem zec:LN .local aZ "_law_e":=by decide +kernel
theorem zed:LN .globalImplicit aZ "_law_just":=by decide +kernel
theorem zee:LN .local aZ "_law_signs":=by decide +kernel
theorem zef:LN .local aZ "_law_thing":=by decide +kernel
theorem zeg:LN .local aZ "_law_told_here":=by decide +kernel
theorem zeh:LN .globalImplicit aZ "read_saying":=by decide +kernel
inductive spTold(C:Addr)(vs:List V)(H:Hp)(Q:VK)(e3_:XK):Prop | mk (g:Addr) (v:V) (ks:List Str) (ts:List ar) (fs:List am) (_:vs=[.ref g,v]) (_:aR C H g ks ts fs) (_:aV ks ts fs) (_:OkV H v) (_:∀ p H',Same H H'→Rd0 H' (.ref p) (gZ ks ts fs v)→Q (.ref p) H')
theorem wH{C N fe x1 x2 x3 x4 x5 x6 x7 x8:Addr}(F:ah K mg "_law_told" aZ lC4)(Z:Bl mg)(O_NoSaying:mg "NoSaying"=some (.ref N)∧pX K N∧PySem.W.mroIn K N (.type "BaseException")=some true)(T:Xs K N fe [x1,x2,x3,x4,x5,x6,x7,x8])
  (D_law_just:xF P w K mg base "_law_just" 1 lE0 (spJust N)) (D_read_saying:aU P w K mg base "read_saying" 35 lD4 (spReadE C N)):Def P w K mg base "_law_told" 36 lC4 (spTold C):=by
 have SC:=zea
 refine F.mk' (k:=35) zea (fun vs H Q E h=>?_) (fun f cdv A outer s H vs Q E hr h=>?_)
 ·obtain⟨g,v,ks,ts,fs,rfl,_⟩:=h
  rfl
 ·obtain⟨g,v,ks,ts,fs,rfl,hS,ok,hv,q⟩:=h
  refine'⟨_,?dv,?_⟩
  case dv=>refine' cD ?Aa ?Ba;(case Aa=>refine' iN (i:=2) (x:=Str.ofString "_law_told_here") ?Ca ?Da ?Ea ?Fa ?Ga ?Ha;(case Ca=>exact SC.nd);(case Da=>exact rfl);(case Ea=>exact(Or.inl zeg));(case Fa=>exact tH);(case Ga=>rfl);case Ha=>exact .inl rfl);case Ba=>refine' cD ?Ia ?Ja;(case Ia=>refine' sZ (Ec:=(EcT N H (gZ ks ts fs v=g6))) (i:=3) (n:=Str.ofString "_law_e") (hdb:=zch) O_NoSaying.1 O_NoSaying.2.1 O_NoSaying.2.2 zeb SC.nd rfl zec ?Ka ?La;(case Ka=>intro _;refine' ba ?Ma;case Ma=>refine' iN (i:=2) (x:=Str.ofString "_law_told_here") ?Na ?Oa ?Pa ?Qa ?Ra ?Sa;(case Na=>exact SC.nd);(case Oa=>exact rfl);(case Pa=>exact(Or.inl zeg));(case Qa=>refine' kH ?Ta;case Ta=>refine' aw ?Ua ?Va ?Wa;(case Ua=>exact eh);(case Va=>refine' aw ?Xa be ?Ya;(case Xa=>refine' pk (hdb:=zdw) (ot bq) D_read_saying (hr.mono (by decide)) zeh ?Za rfl rfl;case Za=>refine' aw (pq 0 (dn zee) zdo zdp) ?Ab ?Bb;(case Ab=>refine' aw (pq 1 (dn zef) zdq zdr) be ?Cb;case Cb=>rfl);case Bb=>rfl);case Ya=>rfl);case Wa=>rfl);(case Ra=>rfl);case Sa=>exact .inl rfl);case La=>intro _ _;refine' ba ?Db;case Db=>refine' iN (i:=2) (x:=Str.ofString "_law_told_here") ?Eb ?Fb ?Gb ?Hb ?Ib ?Jb;(case Eb=>exact SC.nd);(case Fb=>exact rfl);(case Gb=>exact(Or.inl zeg));(case Hb=>refine' kH ?Kb;case Kb=>refine' aw ?Lb ?Mb ?Nb;(case Lb=>exact eh);(case Mb=>refine' aw ?Ob be ?Pb;(case Ob=>refine' wq (hdb:=zdn) D_law_just (cf.mark (cf.mono (aI.u hr) (by decide)) _) zed ?Qb rfl rfl;case Qb=>refine' aw (pq 3 (dn zec) zdl zdm) be ?Rb;case Rb=>rfl);case Pb=>rfl);case Nb=>rfl);(case Ib=>rfl);case Jb=>exact .inl rfl);case Ja=>refine' ba ?Sb;case Sb=>refine' iO (pq 2 (dn zeg) zds zdt)
  refine⟨?_,?_⟩
  ·refine⟨_,rfl,_,rfl,g,v,ks,ts,fs,rfl,hS,ok,hv.sh,fun hy H1 s1=>⟨rfl,s1,kE hy⟩,fun x hx=>⟨hv.len x hx,hv.bal x hx,fun t ht u H1 tu s1=>⟨by show 2≤sizeLine; decide,fun r hr=>?_⟩,fun hn H1 s1=>⟨rfl,s1,by rw [hx]; exact iM hn⟩⟩⟩
   have st:=ad hr (.tup [.str "told",u])
   refine⟨_,rfl,q _ _ (s1.trans st) ?_⟩
   rw [hx,kD ht]
   exact .tup trivial aa (.cons (.str _) (.cons (Rd0.same tu st) .nil))
  ·rintro cls dx H1 σ1 ⟨rfl,s1,hy⟩ hl
   obtain⟨o1,o2,o3,o4,rfl⟩:=Few.le4 hl
   refine⟨N,rfl,T.up,fun a ha=>?_⟩
   have sa:=ad ha (oN N a dx)
   refine⟨_,rfl,a,dx,rfl,aa,fun H2 s2=>⟨by show 2≤sizeLine; decide,fun t ht=>?_⟩⟩
   have st:=ad ht (.tup [.str "refused",.bl true])
   refine⟨_,rfl,q _ _ (((s1.trans sa).trans s2).trans st) ?_⟩
   rw [hy]
   exact .tup trivial aa (.cons (.str _) (.cons (.bl _) .nil))
end
section
abbrev gw:Stmt:=top 68
theorem zei:aj ["_law_book_here","_law_thing","_law_found"] lB9 (ag gw):=by walk_at "F"
inductive spDue(vs:List V)(H:Hp)(Q:VK)(e3_:XK):Prop | mk (b:Addr) (v:V) (ks:List Str) (ts:List ar) (fs:List am) (_:vs=[.ref b,v]) (_:BkR H b ks ts fs) (_:aV ks ts fs) (_:OkV H v) (_:∀ p H',Same H H'→Rd0 H' (.ref p) (gZ ks ts fs v)→Q (.ref p) H')
theorem y6(F:ah K mg "_law_due" gw lB9)(Z:Bl mg)(D_law_read:Def P w K mg base "_law_read" 33 lC0 spLRead):Def P w K mg base "_law_due" 34 lB9 spDue:=by
 have SC:=zei
 refine F.mk' (k:=33) zei (fun vs H Q E h=>?_) (fun f cdv A outer s H vs Q E hr h=>?_)
 ·obtain⟨b,v,ks,ts,fs,rfl,_⟩:=h
  rfl
 ·obtain⟨b,v,ks,ts,fs,rfl,hb,ok,hv,q⟩:=h
  refine'⟨_,?dv,?_⟩
  case dv=>(have:=af 2 376 58 85; walk_at "S2")
  obtain⟨ty,hty,hk⟩:=hv.sh.isS (K:=K)
  refine⟨_,rfl,_,ty,_,rfl,hty,hk,_,rfl,?_⟩
  have non:∀ H1,Same H H1→gZ ks ts fs v=g6→∀ t,H1 t=none→Q (.ref t) (upd H1 t (.tup [.str "refused",.bl true])):=fun H1 s1 e t ht=>by
   refine q _ _ (s1.trans (ad ht _)) ?_
   rw [e]
   exact .tup trivial aa (.cons (.str _) (.cons (.bl _) .nil))
  by_cases hs:∃ x,v=.str x
  rotate_left
  ·have e:cY v=false:=by cases v <;> first | rfl | exact absurd ⟨_,rfl⟩ hs
   rw [e]
   exact ifF (by decide) ⟨_,rfl,rfl,_,rfl,ifT rfl ⟨by show 2≤sizeLine; decide,non _ (Same.refl _) (kE fun x z=>hs ⟨x,z⟩)⟩⟩
  obtain⟨x,rfl⟩:=hs
  refine ifT rfl ⟨_,rfl,_,rfl,b,x,ks,ts,fs,rfl,hb,ok,hv.len x rfl,hv.bal x rfl,fun t ht u H1 tu s1=>?_,fun hn H1 s1=>⟨_,rfl,rfl,_,rfl,ifT rfl ⟨by show 2≤sizeLine; decide,non _ s1 (iM hn)⟩⟩⟩
  refine⟨_,rfl,rfl,_,rfl,ifF (by simpa using rW tu) ⟨_,rfl,by show 2≤sizeLine; decide,fun r hr=>?_⟩⟩
  have st:=ad hr (.tup [.str "told",u])
  refine q _ _ (s1.trans st) ?_
  rw [kD ht]
  exact .tup trivial aa (.cons (.str _) (.cons (Rd0.same tu st) .nil))
end
def en(x:Str):Prop:=∀ c∈x.cps.toList,c<16 ^ 8
theorem bt{a b:List Nat}(h1:∀ c∈a,c<16 ^ 8)(h2:∀ c∈b,c<16 ^ 8):∀ c∈a++b,c<16 ^ 8:=fun c h=>(YN.mp h).elim (h1 c) (h2 c)
theorem zr{l:List Nat}{a:Nat}(h:a<l.length):l=l.take a++l[a]::l.drop (a+1):=by
 rw [← Xe h,Y4]
theorem lb{n:Nat}{l:List Nat}(h:Bal n l)(a:Nat):Bal (n+1) (l.take a++l.drop (a+1)):=by
 by_cases ha:a<l.length
 ·rw [zr ha] at h
  exact h.del
 ·rw [YF (by omega),Y6 (by omega),YS]
  exact h.le (by omega)
theorem xw{n:Nat}{l:List Nat}(h:Bal n l)(a c:Nat):Bal (n+1) (l.take a++[c]++l.drop a):=by
 rw [YM]
 exact Bal.ins c (b:=l.drop a) (by rw [Y4]; exact h)
theorem xv{n:Nat}{l:List Nat}(h:Bal n l)(a c:Nat):Bal (n+2) (l.take a++[c]++l.drop (a+1)):=by
 rw [YM]
 exact Bal.ins c (lb h a)
theorem vz{n:Nat}{l:List Nat}(h:Bal n l)(a:Nat):Bal (n+2) (l.take a++((l.drop (a+1)).take 1++(l.drop a).take 1)++l.drop (a+2)):=by
 by_cases ha:a+1<l.length
 ·have e1:l.drop (a+1)=l[a+1]::l.drop (a+2):=Xe ha
  have e0:l.drop a=l[a]::l.drop (a+1):=Xe (by omega)
  have:=lb h a
  rw [e1] at this
  have e:l.take a++((l.drop (a+1)).take 1++(l.drop a).take 1)++l.drop (a+2)=(l.take a++[l[a+1]])++l[a]::l.drop (a+2):=by
   have t1:(l.drop (a+1)).take 1=[l[a+1]]:=by rw [e1]; rfl
   have t0:(l.drop a).take 1=[l[a]]:=by rw [e0]; rfl
   rw [t1,t0]; simp
  rw [e]
  exact Bal.ins _ (by rw [YM]; exact this)
 ·have e:l.take a++((l.drop (a+1)).take 1++(l.drop a).take 1)++l.drop (a+2)=l:=by
   rw [Y6 (show l.length≤a+1 by omega),Y6 (show l.length≤a+2 by omega),List.take_nil,Xu,YS,YF (l:=l.drop a) (by rw [YY]; omega),Y4]
  rw [e]
  exact h.le (by omega)
section
abbrev dM:Stmt:=top 64
theorem zej:aj ["_law_pot_here","_law_text","_law_signs","_law_at","_law_sign_here","_law_way","_law_pair"] lC1 (ag dM):=by walk_at "F"
inductive spSpo(vs:List V)(H:Hp)(Q:VK)(e3_:XK):Prop | mk (p:Addr) (x:Str) (_:vs=[.ref p,.str x]) (_:bJ H p) (_:x.length≤30000) (_:∀ z H',av p H H'→z.length≤x.length+1→(∀ n,Bal n x.cps.toList→Bal (n+2) z.cps.toList)→(en x→en z)→Q (.str z) H')
theorem kA_ (a n:Nat):min a n+1≤n+1:=by omega
theorem kB_ (a n:Nat):min a n+1+(n-a)≤n+1:=by omega
theorem kC_ (a n:Nat):min a n+(n-(a+1))≤n+1:=by omega
theorem kD_ (a n:Nat):min a n+1+(n-(a+1))≤n+1:=by omega
theorem kE_ (a n:Nat):min 1 (n-(a+1))+min 1 (n-a)≤n+1:=by omega
theorem kF_ (a n:Nat):min a n+(min 1 (n-(a+1))+min 1 (n-a))≤n+1:=by omega
theorem kG_ (a n:Nat):min a n+(min 1 (n-(a+1))+min 1 (n-a))+(n-(a+2))≤n+1:=by omega
theorem yY(F:ah K mg "_law_spoilt" dM lC1)(Z:Bl mg)(D_law_draw:Def P w K mg base "_law_draw" 1 lA6 spDraw):Def P w K mg base "_law_spoilt" 2 lC1 spSpo:=by
 have SC:=zej
 refine F.mk' (k:=1) zej (fun vs H Q E h=>?_) (fun f cdv A outer s H vs Q E hr h=>?_)
 ·obtain⟨p,x,rfl,_⟩:=h
  rfl
 ·obtain⟨p,x,rfl,hp,hx,q⟩:=h
  refine'⟨_,?dv,?_⟩
  case dv=>(have:=af 13 347 17 57; have:=af 29 349 21 74; have:=af 13 357 16 83; have:=af 13 358 11 68; have:=af 31 347 43 57; have:=af 13 352 15 73; have:=af 13 354 15 60; have:=af 13 356 15 77; have:=af 31 357 16 50; have:=af 31 357 53 83; have:=af 13 358 11 42; have:=af 31 358 45 68; have:=af 4 348 39 53; have:=af 4 349 57 72; have:=af 13 352 15 51; have:=af 31 352 54 73; have:=af 31 354 15 34; have:=af 31 354 37 60; have:=af 13 356 15 51; have:=af 31 356 54 77; have:=af 31 358 11 30; have:=af 31 352 15 34; have:=af 31 356 15 34; walk_at "S2")
  have hxs:x.length≤sizeLine:=Yn hx (by decide)
  have xl:x.cps.toList.length=x.length:=by simp [Str.length]
  have sl:∀ z:Str,z.length=z.cps.toList.length:=fun z=>by simp [Str.length]
  have h20:=Txt.slice_le x none (some 20)
  have l0:("() =abxrfnotld\tA7_\n":Str).length=19:=rfl
  refine⟨_,rfl,_,rfl,x,rfl,hxs,_,_,rfl,rfl,Yn (show _≤30100 by omega) (by decide),?_⟩
  have lS:(("() =abxrfnotld\tA7_\n":Str)++Txt.slice x none (some 20)).length=19+(Txt.slice x none (some 20)).length:=by rw [aJ,l0]
  have h20':(Txt.slice x none (some 20)).length≤20:=by
   rw [sl,show (some (20:Int))=some ((20:Nat):Int) from rfl,iG,YV]; omega
  have lwS:en x→en (("() =abxrfnotld\tA7_\n":Str)++Txt.slice x none (some 20)):=fun h=>by
   unfold en
   rw [aG,show (some (20:Int))=some ((20:Nat):Int) from rfl,iG]
   exact bt (by decide +kernel) fun c hc=>h c (Y1 hc)
  generalize ("() =abxrfnotld\tA7_\n":Str)++Txt.slice x none (some 20)=S at lS lwS
  refine⟨_,rfl,_,rfl,x,rfl,hxs,_,_,rfl,rfl,p,_,rfl,hp,by omega,by omega,fun r1 H1 r0 rl p1 s1=>?_⟩
  refine⟨_,rfl,_,rfl,_,rfl,S,rfl,Yn (show S.length≤100 by omega) (by decide),p,_,rfl,p1,by omega,by omega,fun r2 H2 c0 cl p2 s2=>?_⟩
  obtain⟨c,hc⟩:∃ c,S.cps.toList[r2.toNat]? = some c:=⟨_,Xg (by rw [← sl]; omega)⟩
  refine⟨S,r2,c,rfl,rfl,Yn (show S.length≤100 by omega) (by decide),aK c0 hc,?_⟩
  refine⟨_,rfl,p,4,rfl,p2,by decide,by decide,fun r3 H3 w0 wl p3 s3=>?_⟩
  obtain⟨a,rfl⟩:∃ a:Nat,r1=a:=⟨r1.toNat,by omega⟩
  have w3:av p H H3:=⟨p3,(s1.trans s2).trans s3⟩
  have e1:=iG x a
  have e2:=iF x a
  have e3:(Txt.slice x (some ((a:Int)+1)) none).cps.toList=x.cps.toList.drop (a+1):=iF x (a+1)
  have e4:(Txt.slice x (some ((a:Int)+2)) none).cps.toList=x.cps.toList.drop (a+2):=iF x (a+2)
  have e5:(Txt.slice x (some ((a:Int)+1)) (some ((a:Int)+2))).cps.toList=(x.cps.toList.drop (a+1)).take 1:=(dB x (a+1) (a+2)).trans (by rw [show a+2 - (a+1)=1 by omega])
  have e6:(Txt.slice x (some (a:Int)) (some ((a:Int)+1))).cps.toList=(x.cps.toList.drop a).take 1:=(dB x a (a+1)).trans (by rw [show a+1-a=1 by omega])
  have m1:(Txt.slice x none (some (a:Int))).length=min a x.length:=by rw [sl,e1,YV,xl]
  have m2:(Txt.slice x (some (a:Int)) none).length=x.length-a:=by rw [sl,e2,YY,xl]
  have m3:(Txt.slice x (some ((a:Int)+1)) none).length=x.length - (a+1):=by rw [sl,e3,YY,xl]
  have m4:(Txt.slice x (some ((a:Int)+2)) none).length=x.length - (a+2):=by rw [sl,e4,YY,xl]
  have m5:(Txt.slice x (some ((a:Int)+1)) (some ((a:Int)+2))).length=min 1 (x.length - (a+1)):=by rw [sl,e5,YV,YY,xl]
  have m6:(Txt.slice x (some (a:Int)) (some ((a:Int)+1))).length=min 1 (x.length-a):=by rw [sl,e6,YV,YY,xl]
  have lc:en x→∀ d∈[c],d<16 ^ 8:=fun h d hd=>by rw [Yp.mp hd]; exact lwS h c (YD hc)
  have lt:en x→∀ i,∀ d∈x.cps.toList.take i,d<16 ^ 8:=fun h i d hd=>h d (Y1 hd)
  have ld:en x→∀ i,∀ d∈x.cps.toList.drop i,d<16 ^ 8:=fun h i d hd=>h d (List.mem_of_mem_drop hd)
  have mc:(⟨#[c]⟩:Str).length=1:=rfl
  have big:∀ n,n≤x.length+1→n≤sizeLine:=fun n h=>Yn h (Yn (Nat.succ_le_succ hx) (by decide))
  refine⟨_,rfl,rfl,_,rfl,?_⟩
  by_cases h0:r3=0
  ·refine ifT (by simp [h0]) ?_
   refine⟨_,rfl,_,rfl,_,rfl,x,rfl,hxs,_,rfl,_,_,rfl,rfl,big _ (by rw [m1,mc]; exact kA_ a _),?_⟩
   refine⟨_,rfl,_,rfl,_,rfl,x,rfl,hxs,_,_,rfl,rfl,big _ (by rw [aJ,m1,mc,m2]; exact kB_ a _),?_⟩
   refine q _ _ w3 (by rw [aJ,aJ,m1,mc,m2]; exact kB_ a _) (fun n hb=>?_) fun h=>?_
   ·rw [aG,aG,e1,e2]
    exact(xw hb a c).le (Nat.le_succ _)
   ·unfold en
    rw [aG,aG,e1,e2]
    exact bt (bt (lt h a) (lc h)) (ld h a)
  refine ifF (by simp [h0]) ⟨_,rfl,rfl,_,rfl,?_⟩
  by_cases h1:r3=1
  ·refine ifT (by simp [h1]) ?_
   refine⟨_,rfl,_,rfl,_,rfl,x,rfl,hxs,?_⟩
   refine⟨_,rfl,_,rfl,_,_,rfl,rfl,_,rfl,x,rfl,hxs,_,_,rfl,rfl,big _ (by rw [m1,m3]; exact kC_ a _),?_⟩
   refine q _ _ w3 (by rw [aJ,m1,m3]; exact kC_ a _) (fun n hb=>?_) fun h=>?_
   ·rw [aG,e1,e3]
    exact(lb hb a).le (Nat.le_succ _)
   ·unfold en
    rw [aG,e1,e3]
    exact bt (lt h a) (ld h _)
  refine ifF (by simp [h1]) ⟨_,rfl,rfl,_,rfl,?_⟩
  by_cases h2:r3=2
  ·refine ifT (by simp [h2]) ?_
   refine⟨_,rfl,_,rfl,_,rfl,x,rfl,hxs,_,rfl,_,_,rfl,rfl,big _ (by rw [m1,mc]; exact kA_ a _),?_⟩
   refine⟨_,rfl,_,rfl,_,_,rfl,rfl,_,rfl,x,rfl,hxs,_,_,rfl,rfl,big _ (by rw [aJ,m1,mc,m3]; exact kD_ a _),?_⟩
   refine q _ _ w3 (by rw [aJ,aJ,m1,mc,m3]; exact kD_ a _) (fun n hb=>?_) fun h=>?_
   ·rw [aG,aG,e1,e3]
    exact xv hb a c
   ·unfold en
    rw [aG,aG,e1,e3]
    exact bt (bt (lt h a) (lc h)) (ld h _)
  refine ifF (by simp [h2]) ?_
  refine⟨_,rfl,_,rfl,_,_,rfl,rfl,_,rfl,_,rfl,_,_,rfl,rfl,_,rfl,x,rfl,hxs,?_⟩
  refine⟨_,rfl,_,rfl,_,rfl,_,rfl,_,_,rfl,rfl,_,rfl,x,rfl,hxs,_,_,rfl,rfl,big _ (by rw [m5,m6]; exact kE_ a _),?_⟩
  have m56:=aJ (Txt.slice x (some ((a:Int)+1)) (some ((a:Int)+2))) (Txt.slice x (some (a:Int)) (some ((a:Int)+1)))
  have c56:=aG (Txt.slice x (some ((a:Int)+1)) (some ((a:Int)+2))) (Txt.slice x (some (a:Int)) (some ((a:Int)+1)))
  rw [e5,e6] at c56
  generalize Txt.slice x (some ((a:Int)+1)) (some ((a:Int)+2))++Txt.slice x (some (a:Int)) (some ((a:Int)+1))=pr at m56 c56
  refine⟨_,rfl,_,rfl,_,rfl,x,rfl,hxs,_,rfl,_,_,rfl,rfl,big _ (by rw [m1,m56,m5,m6]; exact kF_ a _),?_⟩
  refine⟨_,rfl,_,rfl,_,_,rfl,rfl,_,rfl,x,rfl,hxs,_,_,rfl,rfl,big _ (by rw [aJ,m1,m56,m5,m6,m4]; exact kG_ a _),?_⟩
  refine q _ _ w3 (by rw [aJ,aJ,m1,m56,m5,m6,m4]; exact kG_ a _) (fun n hb=>?_) fun h=>?_
  ·rw [aG,aG,e1,c56,e4]
   exact vz hb a
  ·unfold en
   rw [aG,aG,e1,c56,e4]
   exact bt (bt (lt h a) (bt (fun d hd=>ld h _ d (Y1 hd)) fun d hd=>ld h _ d (Y1 hd))) (ld h _)
end
structure Pr(D W:Nat)(d:PyData):Prop where
 sh:d.showable=true
 dp:d.depth≤D
 lv:d.leavesShort 8=true
 wt:d.weight≤W
theorem Pr.fits{D W:Nat}{d:PyData}(h:Pr D W d)(hD:D≤60)(hW:W≤2 ^ 20):d.showable=true∧d.depth≤60∧d.shown.length≤sizeLine:=
 ⟨h.sh,Yn h.dp hD,PyData.shown_fits (B:=8) (by decide) (by decide) h.lv (Yn h.wt hW)⟩
mutual
theorem zek:∀ t:Tr,Lk t (tuD t)
 | .leaf x=>by rw [tuD]; exact .leaf x
 | .node ts=>by rw [tuD]; exact .tup (zel ts)
theorem zel:∀ ts:List Tr,LkA ts (cm ts)
 | []=>by rw [cm]; exact .nil
 | t::ts=>by rw [cm]; exact .cons (zek t) (zel ts)
end
theorem iX:∀ {a b:List Tr},kL a→kL b→kL (a++b)
 | [],_,_,h=>h
 | _::_,_,h1,h2=>⟨h1.1,iX h1.2 h2⟩
def lowS(st:List (List Tr)):Prop:=∀ r∈st,kL r
theorem lowS.flu{w:List Nat}{st:List (List Tr)}(hw:∀ c∈w,c<16 ^ 8)(h:lowS st):lowS (flu w st):=by
 unfold Few.flu
 split
 ·exact h
 ·match st,h with
  | [],h=>exact h
  | r::q,h=>
   intro r' hr
   rcases Yr.mp hr with rfl | hr
   ·exact iX (h r Yl) ⟨by rw [low,kz]; exact hw,trivial⟩
   ·exact h r' (Yj _ hr)
theorem i6:∀ (l w:List Nat) (st fin:List (List Tr)),go w l st=some fin→(∀ c∈w,c<16 ^ 8)→(∀ c∈l,c<16 ^ 8)→lowS st→lowS fin
 | [],w,st,fin,h,hw,_,hs=>by
  rw [go] at h; cases h
  exact hs.flu hw
 | c::r,w,st,fin,h,hw,hl,hs=>by
  have f:=hs.flu hw
  have hr:=fun d hd=>hl d (Yj c hd)
  have h0:∀ d∈([]:List Nat),d<16 ^ 8:=fun _ z=>nomatch z
  rw [go] at h
  split at h
  ·refine i6 r [] _ fin h h0 hr fun r' hr'=>?_
   rcases Yr.mp hr' with rfl | hr'
   ·exact trivial
   ·exact f r' hr'
  split at h
  ·cases e:lK (flu w st) with
   | none=>rw [e] at h; cases h
   | some s=>
    rw [e] at h
    refine i6 r [] s fin h h0 hr ?_
    match flu w st,e,f with
    | r'::q::rest,e,f=>
     cases e
     intro r2 hr2
     rcases Yr.mp hr2 with rfl | hr2
     ·exact iX (f q (Yj _ Yl)) ⟨f r' Yl,trivial⟩
     ·exact f r2 (Yj _ (Yj _ hr2))
  split at h
  ·exact i6 r [] _ fin h h0 hr f
  ·exact i6 r _ _ fin h (bt hw fun d hd=>by rw [Yp.mp hd]; exact hl c Yl) hr hs
theorem xt{x:Str}{t:Tr}(h:brk x=some t)(l:en x):low t:=by
 unfold brk at h
 unfold mQ at h
 split at h
 ·rename_i u e
  cases h
  have:=i6 _ _ _ _ e (fun _ z=>nomatch z) l (fun r hr=>by rw [Yp.mp hr]; exact trivial)
  exact(this _ Yl).1
 ·cases h
structure OkX(x:Str):Prop where
 len:x.length≤30000
 bal:Bal 14 x.cps.toList
 lw:en x
theorem vQ{ks:List Str}{ts:List ar}{fs:List am}{x:Str}{t:Tr}(h:cj ks ts fs x=some t)(ok:OkX x):Pr 14 60000 (tuD t):=by
 have hb:brk x=some t:=by
  unfold cj at h
  split at h
  ·rename_i t' e
   split at h
   ·cases h; exact e
   ·cases h
  ·cases h
 obtain⟨l1,l2,l3,l4⟩:=gF t
 have:=kZ hb
 have:=ok.len
 exact⟨zbw (zek t),by rw [l2]; exact ie hb ok.bal,zby (zek t) (xt hb ok.lw),by omega⟩
theorem sM{ks:List Str}{ts:List ar}{fs:List am}{v:V}(ok:∀ x,v=.str x→OkX x):(gZ ks ts fs v).showable=true∧(gZ ks ts fs v).depth≤60∧(gZ ks ts fs v).shown.length≤sizeLine:=by
 have r0:Pr 1 20 g6:=⟨by decide +kernel,by decide +kernel,by decide +kernel,by decide +kernel⟩
 have f0:(g6).showable=true∧(g6).depth≤60∧(g6).shown.length≤sizeLine:=r0.fits (by decide) (by decide)
 by_cases hs:∃ x,v=.str x
 rotate_left
 ·rw [kE fun x e=>hs ⟨x,e⟩]; exact f0
 obtain⟨x,rfl⟩:=hs
 cases h:cj ks ts fs x with
 | none=>rw [iM h]; exact f0
 | some t=>
  rw [kD h]
  have p:=vQ h (ok x rfl)
  have : Pr 15 60020 (.tuple [.str "told",tuD t]):=by
   refine⟨?_,?_,?_,?_⟩
   ·simp only [PyData.showable,PyData.showableAll,p.sh,Bool.and_self]
   ·simp only [XB,YG]; have:=p.dp; omega
   ·simp only [PyData.leavesShort,PyData.leavesShortAll,p.lv,Bool.and_true]; decide +kernel
   ·simp only [Xf,YE]; have:=p.wt; have e:("told":Str).cps.size=4:=rfl; omega
  exact this.fits (by decide) (by decide)
theorem jw{R:Addr→Prop}{H:Hp}:∀ {ts:List ar} {tv:List V},RdA R H tv (ts.map lr)→∃ ab:List (Addr×Addr),tv=ab.map (fun q=>V.ref q.1)∧Sgs H ab (ts.map se)
 | [],_,.nil=>⟨[],rfl,.nil⟩
 | t::r,_,.cons a b=>by
  obtain⟨ab,rfl,hs⟩:=jw b
  obtain⟨q1,qx,rfl,_,h1,h2⟩:=RdV.tuple_inv a
  obtain⟨u,v,rfl,hu,hv⟩:=h2.two
  obtain rfl:=hu.str_inv
  obtain⟨q2,qy,rfl,_,h3,h4⟩:=hv.list_inv
  obtain rfl:=h4.strs_inv
  exact⟨(q1,q2)::ab,rfl,.cons ⟨.inr h1,.inl h3⟩ hs⟩
theorem jT{R:Addr→Prop}{H:Hp}:∀ {ts:List am} {tv:List V},RdA R H tv (ts.map kT)→∃ ab:List (Addr×Addr),tv=ab.map (fun q=>V.ref q.1)∧Sgs H ab (ts.map u3)
 | [],_,.nil=>⟨[],rfl,.nil⟩
 | t::r,_,.cons a b=>by
  obtain⟨ab,rfl,hs⟩:=jT b
  obtain⟨q1,qx,rfl,_,h1,h2⟩:=RdV.tuple_inv a
  obtain⟨u,v,x,rfl,hu,hv,hx⟩:=h2.three
  obtain rfl:=hu.str_inv
  obtain rfl:=hx.str_inv
  obtain⟨q2,qy,rfl,_,h3,h4⟩:=hv.list_inv
  obtain rfl:=h4.strs_inv
  exact⟨(q1,q2)::ab,rfl,.cons ⟨.inr h1,.inl h3⟩ hs⟩
theorem xa{xs:List V}{lo hi:Option Int}{y:V}(h:y∈eQ xs lo hi):y∈xs:=List.mem_of_mem_drop (Y1 h)
theorem lY{z:Str}(h:b6 z):rE (.leaf z):=fun c hc=>by have:=h.2.2 c hc; omega
theorem kf:∀ z∈[("=":Str),"not","and","or","all","some"],rE (.leaf z):=by
 intro z hz
 have : ∀ z∈[("=":Str),"not","and","or","all","some"],∀ c∈z.cps.toList,c≠40∧c≠41:=by decide +kernel
 exact this z hz
mutual
theorem rZ{ks:List Str}{ts:List ar}{fs:List am}(B:aV ks ts fs){S:Str→Option Str}(hS:∀ x k,S x=some k→b6 x):∀ {t:Tr} {k:Str},oM fs S t k→rE t
 | _,_,.var h=>lY (hS _ _ h)
 | _,_,.app hf r=>⟨lY (B.fn _ hf).1.1,ni B hS r⟩
theorem ni{ks:List Str}{ts:List ar}{fs:List am}(B:aV ks ts fs){S:Str→Option Str}(hS:∀ x k,S x=some k→b6 x):∀ {t:List Tr} {k:List Str},dI fs S t k→mT t
 | _,_,.nil=>trivial
 | _,_,.cons h r=>⟨rZ B hS h,ni B hS r⟩
end
theorem sH{S:Str→Option Str}(hS:∀ x k,S x=some k→b6 x){z q:Str}(hz:b6 z):∀ x k,dY S z q x=some k→b6 x:=by
 intro x k h
 unfold dY at h
 by_cases e:x=z
 ·rw [e]; exact hz
 ·rw [if_neg e] at h; exact hS _ _ h
mutual
theorem oZ{ks:List Str}{ts:List ar}{fs:List am}(B:aV ks ts fs):∀ {S:Str→Option Str} {t:Tr},(∀ x k,S x=some k→b6 x)→fF ks ts fs S t→rE t
 | _,_,hS,.eq a b=>⟨kf _ (by simp),rZ B hS a,rZ B hS b,trivial⟩
 | _,_,hS,.not a=>⟨kf _ (by simp),oZ B hS a,trivial⟩
 | _,_,hS,.conn hw _ a=>⟨kf _ (by rcases hw with rfl | rfl <;> simp),sk B hS a⟩
 | _,_,hS,.bind hw hx hk a=>⟨kf _ (by rcases hw with rfl | rfl <;> simp),lY hx,lY (B.kn2 _ hk),oZ B (sH hS hx) a,trivial⟩
 | _,_,hS,.tie ht a=>⟨lY (B.tn _ ht).1.1,ni B hS a⟩
theorem sk{ks:List Str}{ts:List ar}{fs:List am}(B:aV ks ts fs):∀ {S:Str→Option Str} {t:List Tr},(∀ x k,S x=some k→b6 x)→eV ks ts fs S t→mT t
 | _,_,_,.nil=>trivial
 | _,_,hS,.cons a r=>⟨oZ B hS a,sk B hS r⟩
end
mutual
theorem mX:∀ t:Tr,low t→∀ c∈(wr t).cps.toList,c<16 ^ 8
 | .leaf x,h=>by rw [wr]; exact h
 | .node ts,h=>by
  rw [wr,aG,aG]
  exact bt (bt (by decide +kernel) (oQ ts h)) (by decide +kernel)
theorem oQ:∀ ts:List Tr,kL ts→∀ c∈(Str.join " " (wrA ts)).cps.toList,c<16 ^ 8
 | [],_=>by rw [wrA]; exact fun c z=>by cases z
 | [t],h=>by rw [wrA,wrA]; exact mX t h.1
 | t::u::r,h=>by
  have e:(Str.join " " (wrA (t::u::r))).cps.toList=((wr t).cps.toList++[32])++(Str.join " " (wrA (u::r))).cps.toList:=by
   rw [wrA,wrA]
   have:=bF 32 (wr t) (wr u) (wrA r)
   rw [show (Str.join " " (wr t::wr u::wrA r)).cps.toList=_ from this,YM]
   rfl
  rw [e]
  exact bt (bt (mX t h.1) (by decide +kernel)) (oQ (u::r) h.2)
end
structure j8(C:Addr)(H:Hp)(p b x:Addr)(ks:List Str)(ts:List ar)(fs:List am):Prop where
 pot:bJ H p
 bk:gq H p b ks ts fs
 nx:x≠p
 sg:aR C H x ks ts fs
theorem j8.went{C:Addr}{H H':Hp}{p b x:Addr}{ks:List Str}{ts:List ar}{fs:List am}(h:j8 C H p b x ks ts fs)(w:av p H H'):j8 C H' p b x ks ts fs:=
 ⟨w.pot,RdV.went h.bk w.same,h.nx,h.sg.keep (fun o e=>w.same x o h.nx e) (cE h.pot w.same)⟩
theorem j8.grow{C:Addr}{H H':Hp}{p b x:Addr}{ks:List Str}{ts:List ar}{fs:List am}(h:j8 C H p b x ks ts fs)(s:Same H H'):av p H H':=⟨h.pot.keep s,s.x⟩
structure jj(H:Hp)(v:V):Prop where
 sh:Sh H v
 tx:∀ x,v=.str x→OkX x
theorem jj.okV{H:Hp}{v:V}(h:jj H v):OkV H v:=⟨h.sh,fun x e=>(h.tx x e).len,fun x e=>(h.tx x e).bal⟩
theorem jj.same{H H':Hp}{v:V}(h:jj H v)(s:Same H H'):jj H' v:=⟨h.sh.same s,h.tx⟩
theorem jj.str{H:Hp}{x:Str}(h:OkX x):jj H (.str x):=⟨.str x,fun y e=>by cases e; exact h⟩
def pY(C:Addr)(H:Hp)(e:V):Prop:=e=.non∨∃ (a g:Addr) (v:V) (ks:List Str) (ts:List ar) (fs:List am),e=.ref a∧H a=some (.tup [.ref g,v,.str (gZ ks ts fs v).shown])∧aR C H g ks ts fs∧aV ks ts fs∧jj H v
theorem pY.same{C:Addr}{H H':Hp}{e:V}(h:pY C H e)(s:Same H H'):pY C H' e:=by
 rcases h with rfl | ⟨a,g,v,ks,ts,fs,rfl,h1,h2,h3,h4⟩
 ·exact .inl rfl
 ·exact .inr ⟨a,g,v,ks,ts,fs,rfl,s _ _ h1,h2.same s,h3,h4.same s⟩
theorem sE{a b:TS}{D:dJ}{σ:St}{H:Hp}(S:St→Hp→Prop)(h:∀ σ' H',S σ' H'→b D σ' H')(k:(∀ σ' H',S σ' H'→b D σ' H')→ql a b D σ H):ql a b D σ H:=k h
theorem vA:OkX "(and)":=⟨by decide,by unfold Bal; intro i; match i with | 0=>decide | 1=>decide | 2=>decide | 3=>decide | 4=>decide | n+5=>(rw [YF (by show 5≤n+5; omega)]; decide +kernel),by unfold en; decide +kernel⟩
section
abbrev fQ:Stmt:=top 69
theorem zem:aj ["_law_script","_law_elder","_law_number","_law_pot_here","_law_book_here","_law_signs","_law_thing","_law_k"] lE1 (ag fQ):=by walk_at "F"
inductive spLaw(K:XC)(vs:List V)(H:Hp)(Q:VK)(e3_:XK):Prop | mk (a:Addr) (ns:List Int) (_:vs=[.ref a]) (_:SqL K H a (ns.map V.int)) (_:ns.length≤63) (_:∀ H',Q (.bl true) H')
theorem y3{C fI fL:Addr}{fdI fdL:FuncData}(F:Fun K "law" "law" fQ fL fdL)(Z:Bl mg)(D_law_cell:Def P w K mg base "_law_cell" 1 lC2 (spCell (K:=K)))(D_law_pot:Def P w K mg base "_law_pot" 1 lC8 spPot)(D_law_draw:Def P w K mg base "_law_draw" 1 lA6 spDraw)
  (D_law_book:Def P w K mg base "_law_book" 3 lB1 spBook) (D_law_saying:Def P w K mg base "_law_saying" 12 lB0 spSaying)
  (D_law_written:Def P w K mg base "_law_written" (14+2) lA7 (spWr 14)) (D_law_spoilt:Def P w K mg base "_law_spoilt" 2 lC1 spSpo) (D_law_nested:Def P w K mg base "_law_nested" 1 lD6 spNest) (D_law_within:Def P w K mg base "_law_within" (14+2) lA7 (spWin 14))
  (D_law_due:Def P w K mg base "_law_due" 34 lB9 spDue) (D_law_told:Def P w K mg base "_law_told" 36 lC4 (spTold C))
  (M_Signs:Mk K C fI) (G_Signs:cK P w K mg base CX0 5 fI fdI lB4 (spInit C)) (m_Signs:mg "Signs"=some (.ref C)) (b_Signs:cg K fdI lB4 []) :
  cK P w K mg base CX0 37 fL fdL lE1 (spLaw K):=by
 have SC:=zem
 refine F.ok (k:=36) zem (fun vs H Q E h=>?_) (fun cdv A outer s H vs Q E hr h=>?_)
 ·obtain⟨a,ns,rfl,_⟩:=h
  rfl
 ·obtain⟨aS,ns,rfl,hS,hns,q⟩:=h
  refine'⟨_,?dv,?_⟩
  case dv=>(have:=af 25 380 23 69; have:=af 10 383 27 44; have:=af 10 383 46 63; have:=af 10 383 65 82; have:=af 40 391 11 50; have:=af 40 391 54 96; have:=af 40 395 46 88; have:=af 40 393 38 83; have:=af 10 393 87 100; have:=af 10 393 53 66; have:=af 10 393 68 81; walk_at "S2")
  refine⟨_,rfl,aS,ns,0,rfl,hS,fun n0=>?_⟩
  refine⟨by show 1≤sizeLine; decide,fun l1 hl1=>?_⟩
  have s1:=ad hl1 (.lst [.int n0])
  refine⟨_,rfl,_,rfl,_,rfl,aS,_,rfl,s1.seq hS,fun l2 hl2=>?_⟩
  have s2:=ad hl2 (.lst (eQ (ns.map V.int) (some 1) (some 8)))
  have cl:=eB (ns.map V.int) (some 1) (some 8)
  rw [Yh] at cl
  refine⟨l1,l2,_,_,rfl,rfl,s2 _ _ aa,aa,Yn (show 1+(eQ (ns.map V.int) (some 1) (some 8)).length≤100 by omega) (by decide),fun L hL=>?_⟩
  generalize hxs:[V.int n0]++eQ (ns.map V.int) (some 1) (some 8)=xs
  have allI:∀ y∈xs,∃ z,y=V.int z:=fun y hy=>by
   rw [← hxs] at hy
   rcases YN.mp hy with hy | hy
   ·exact⟨n0,Yp.mp hy⟩
   ·obtain⟨z,_,rfl⟩:=Y7.mp (xa hy)
    exact⟨z,rfl⟩
  have hLx:(upd (upd (upd H l1 (.lst [.int n0])) l2 (.lst (eQ (ns.map V.int) (some 1) (some 8)))) L (.lst xs)) L=some (.lst xs):=aa
  generalize (upd (upd (upd H l1 (.lst [.int n0])) l2 (.lst (eQ (ns.map V.int) (some 1) (some 8)))) L (.lst xs))=HL at hLx
  refine⟨L,rfl,⟨_,SqL.of hLx⟩,ge (K:=K) (a:=L) (xs:=xs) (fun i σ H2=>∃ (vs':List (Option V)) (e:V),vs'.length=6∧σ=some (.ref aS)::some e::vs'∧Same HL H2∧pY C H2 e)
   ⟨_,_,rfl,rfl,Same.refl _,.inl rfl⟩ (by rintro i σ H2 _ ⟨_,_,_,_,z,_⟩;exact SqL.of (z _ _ hLx)) ?_ ?_⟩
  case refine_2=>
   rintro σ H2 ⟨_,_,_,rfl,_,_⟩
   exact q H2
  rintro i y σ H2 hi ⟨vs',el,hvs,rfl,sL,hel⟩
  obtain⟨n,rfl⟩:=allI y (YD hi)
  obtain⟨v1,v2,v3,v4,v5,v6,rfl⟩:=Few.le6 hvs
  refine⟨_,rfl,n,rfl,fun p H3 hp pot3 s3=>?_⟩
  refine⟨_,rfl,p,3,6,rfl,pot3,by decide,by decide,by decide,fun bv H4 ks ts fs rb ok _ _ W4=>?_⟩
  have np3:∀ a,H3 a=none→a≠p:=fun a e=>by rintro rfl; obtain⟨o,e2⟩:=pot3.some; rw [e] at e2; cases e2
  have rb4:RdV (fun a=>a≠p) H4 bv (pV ks ts fs):=rb.mono (fun a z=>np3 a z) fun _ _ _ e=>e
  obtain⟨b,_,rfl,_,_,_⟩:=id (RdV.tuple_inv rb4)
  obtain⟨kA,tA,fA,tv,fv,b1,nk,k1,nt,t1,t2,nf,f1,f2⟩:=gq.open rb4
  refine⟨_,rfl,b,_,_,_,rfl,rfl,SqT.of b1,rfl,_,rfl,b,_,_,_,rfl,rfl,SqT.of b1,rfl,_,rfl,b,_,_,_,rfl,rfl,SqT.of b1,rfl,fun x dx hx hd nd=>?_⟩
  have s6:=jE (CB:=C) hx hd nd
  obtain⟨ab,rfl,sab⟩:=jw (t2.same s6)
  obtain⟨cd,rfl,scd⟩:=jT (f2.same s6)
  refine⟨x,dx,kA,tA,fA,ab,cd,ks,ts,fs,rfl,aa,.inl (s6 _ _ k1),.inl (s6 _ _ t1),sab,.inl (s6 _ _ f1),scd,ok,fun H7 g7 x7=>⟨rfl,?_⟩⟩
  have s47:=jF hx s6 x7
  have W37:av p H3 H7:=⟨W4.pot.keep s47,W4.same.same s47⟩
  have nx:x≠p:=np3 _ (W4.free hx)
  have rb7:gq H7 p b ks ts fs:=RdV.same s47 rb4
  refine⟨_,rfl,_,rfl,p,b,ks,ts,fs,rfl,W37.pot,rb7,ok,fun v H8 t tp sy ft w8=>?_⟩
  have E8:j8 C H8 p b x ks ts fs:=⟨w8.pot,RdV.went rb7 w8.same,nx,g7.keep (fun o e=>w8.same x o nx e) (cE W37.pot w8.same)⟩
  have wsz:=xH t
  have fw:=ft.wt
  have fd:=ft.dp
  refine⟨v,t,rfl,tp,by omega,by omega,fun H9 s9=>?_⟩
  have E9:=E8.went (E8.grow s9)
  have W39:=(W37.trans w8).trans (E8.grow s9)
  have bal0:=(mY t (oZ ok (fun _ _ z=>by cases z) sy) 7 fd).1
  have low0:en (wr t):=mX t ft.lw
  refine⟨_,rfl,p,4,rfl,E9.pot,by decide,by decide,fun r H10 r0 r1 p10 s10=>⟨r,rfl,by omega,by omega,?_⟩⟩
  have w10:av p H9 H10:=⟨p10,s10⟩
  have E10:=E9.went w10
  have nn:r.toNat≤3:=by omega
  refine qW (fun i σ H'=>∃ (o7:Option V) (z:Str),σ=[some (.ref aS),some el,some (.int n),some (.ref p),some (.ref b),some (.ref x),some (.str z),o7]∧av p H10 H'∧z.length≤20000+i∧Bal (7+2*i) z.cps.toList∧en z)
   ⟨_,wr t,rfl,av.refl p10,by omega,bal0,low0⟩ ?_ ?_
  ·rintro i σ H11 hi ⟨o7,z,rfl,w11,zl,zb,zw⟩
   refine⟨_,rfl,_,rfl,p,z,rfl,w11.pot,by omega,fun z' H12 w12 l12 b12 lw12=>?_⟩
   exact⟨_,z',rfl,w11.trans w12,by omega,(b12 _ zb).le (by omega),lw12 zw⟩
  rintro σ H11 ⟨o7,z,rfl,w11,zl,zb,zw⟩
  have okz:OkX z:=⟨by omega,zb.le (by omega),zw⟩
  have E11:=E10.went w11
  have W311:=(W39.trans w10).trans w11
  try dsimp only
  refine sE (fun σ' H'=>∃ z2,σ'=[some (.ref aS),some el,some (.int n),some (.ref p),some (.ref b),some (.ref x),some (.str z2),o7]∧av p H11 H'∧OkX z2) ?_ (fun kk=>?_)
  rotate_left
  ·refine⟨_,rfl,z,rfl,by have:=okz.len; omega,fun t ht u H12 tu s12=>?_,fun hb H12 s12=>?_⟩
   ·have wt:=kZ ht
    obtain⟨l1,l2,l3,l4⟩:=gF t
    have:=okz.len
    refine⟨u,tuD t,rfl,tu,by rw [l2]; exact ie ht okz.bal,by omega,fun m H13 s13=>⟨_,_,rfl,rfl,_,rfl,?_⟩⟩
    have w13:=E11.grow (s12.trans s13)
    by_cases hm:3<m
    ·exact ifT (by simpa using hm) (kk _ _ ⟨_,rfl,w13,vA⟩)
    ·exact ifF (by simpa using hm) (kk _ _ ⟨_,rfl,w13,okz⟩)
   ·refine⟨.non,.none,rfl,.non,by decide,by decide,fun m H13 s13=>⟨_,_,rfl,rfl,_,rfl,?_⟩⟩
    have w13:=E11.grow (s12.trans s13)
    by_cases hm:3<m
    ·exact ifT (by simpa using hm) (kk _ _ ⟨_,rfl,w13,vA⟩)
    ·exact ifF (by simpa using hm) (kk _ _ ⟨_,rfl,w13,okz⟩)
  clear okz zl zb zw
  rintro σ' H13 ⟨z2,rfl,w13,okz⟩
  have E13:=E11.went w13
  have W313:=W311.trans w13
  try dsimp only
  refine sE (fun σ' H'=>∃ v,σ'=[some (.ref aS),some el,some (.int n),some (.ref p),some (.ref b),some (.ref x),some v,o7]∧av p H13 H'∧jj H' v) ?_ (fun kk=>?_)
  rotate_left
  ·refine⟨_,rfl,p,12,rfl,E13.pot,by decide,by decide,fun r H14 r0 r1 p14 s14=>⟨rfl,_,rfl,?_⟩⟩
   have w14:av p H13 H14:=⟨p14,s14⟩
   by_cases hr0:r=0
   rotate_left
   ·exact ifF (by simp [hr0]) (kk _ _ ⟨_,rfl,w14,jj.str okz⟩)
   refine ifT (by simp [hr0]) ?_
   refine⟨by show 1≤sizeLine; decide,fun q2 hq2=>⟨by show 1≤sizeLine; decide,fun q3 hq3 q5 hq5=>⟨by show 6≤sizeLine; decide,fun L hL=>?_⟩⟩⟩
   have a1:=ad hq2 (.tup [.str "and"])
   have a2:=ad hq3 (.lst [.str "(and)"])
   have a3:=ad hq5 (.dK [])
   have a4:=ad hL (.lst [.non,.int 7,.ref q2,.ref q3,.bl true,.ref q5])
   have eq2:=(a2.trans (a3.trans a4)) _ _ (aa (H:=H14) (a:=q2) (o:=.tup [.str "and"]))
   have eq3:=(a3.trans a4) _ _ (aa (a:=q3) (o:=.lst [.str "(and)"]))
   have eq5:=a4 _ _ (aa (a:=q5) (o:=.dK []))
   have eL:(upd (upd (upd (upd H14 q2 (.tup [.str "and"])) q3 (.lst [.str "(and)"])) q5 (.dK [])) L (.lst [.non,.int 7,.ref q2,.ref q3,.bl true,.ref q5])) L=some (.lst [.non,.int 7,.ref q2,.ref q3,.bl true,.ref q5]):=aa
   have sA:=a1.trans (a2.trans (a3.trans a4))
   generalize (upd (upd (upd (upd H14 q2 (.tup [.str "and"])) q3 (.lst [.str "(and)"])) q5 (.dK [])) L (.lst [.non,.int 7,.ref q2,.ref q3,.bl true,.ref q5]))=H15 at eq2 eq3 eq5 eL sA
   have pot15:=p14.keep sA
   have ne:∀ {a:Addr} {o:HO},H15 a=some o→H14 a=none→a≠p:=fun _ e=>by rintro rfl; obtain⟨o,e2⟩:=p14.some; rw [e] at e2; cases e2
   have f3:=a1.free hq3
   have f5:=(a1.trans a2).free hq5
   have fL:=(a1.trans (a2.trans a3)).free hL
   refine⟨_,rfl,p,6,rfl,pot15,by decide,by decide,fun r' H16 g0 g1 p16 s16=>?_⟩
   have w16:av p H13 H16:=(w14.trans ⟨pot15,sA.x⟩).trans ⟨p16,s16⟩
   have eL16:=s16 _ _ (ne eL fL) eL
   obtain⟨j,rfl⟩:∃ j:Nat,r'=j:=⟨r'.toNat,by omega⟩
   have hj:j<6:=by omega
   have odd:∀ v,(∀ x,v≠.str x)→Sh H16 v→jj H16 v:=fun v h s=>⟨s,fun x e=>absurd e (h x)⟩
   match j,hj with
   | 0,_=>exact⟨L,_,0,.non,rfl,rfl,SqL.of eL16,rfl,kk _ _ ⟨_,rfl,w16,odd _ (fun _ z=>by cases z) .non⟩⟩
   | 1,_=>exact⟨L,_,1,.int 7,rfl,rfl,SqL.of eL16,rfl,kk _ _ ⟨_,rfl,w16,odd _ (fun _ z=>by cases z) (.int 7)⟩⟩
   | 2,_=>exact⟨L,_,2,.ref q2,rfl,rfl,SqL.of eL16,rfl,kk _ _ ⟨_,rfl,w16,odd _ (fun _ z=>by cases z) (.row (.inr (s16 _ _ (ne eq2 hq2) eq2)))⟩⟩
   | 3,_=>exact⟨L,_,3,.ref q3,rfl,rfl,SqL.of eL16,rfl,kk _ _ ⟨_,rfl,w16,odd _ (fun _ z=>by cases z) (.row (.inl (s16 _ _ (ne eq3 f3) eq3)))⟩⟩
   | 4,_=>exact⟨L,_,4,.bl true,rfl,rfl,SqL.of eL16,rfl,kk _ _ ⟨_,rfl,w16,odd _ (fun _ z=>by cases z) (.bl true)⟩⟩
   | 5,_=>exact⟨L,_,5,.ref q5,rfl,rfl,SqL.of eL16,rfl,kk _ _ ⟨_,rfl,w16,odd _ (fun _ z=>by cases z) (.dct (s16 _ _ (ne eq5 f5) eq5))⟩⟩
  clear okz
  rintro σ' H14 ⟨v,rfl,w14,tv⟩
  have E14:=E13.went w14
  have W314:=W313.trans w14
  obtain⟨e1,e2,e3⟩:=sM (ks:=ks) (ts:=ts) (fs:=fs) tv.tx
  have bkr:∀ {H'},Same H14 H'→BkR H' b ks ts fs:=fun s'=>RdV.mono (fun _ _=>trivial) (fun _ _ _ e=>e) (E14.went (E14.grow s')).bk
  refine⟨_,rfl,_,rfl,x,v,ks,ts,fs,rfl,E14.sg,ok,tv.okV,fun pt H15 s15 rdt=>?_⟩
  refine⟨_,.ref pt,_,rfl,rdt,e1,e2,e3,_,rfl,_,rfl,b,v,ks,ts,fs,rfl,bkr s15,ok,(tv.same s15).okV,fun pd H16 s16 rdd=>?_⟩
  refine⟨_,.ref pd,_,rfl,rdd,e1,e2,e3,rfl,_,rfl,ifF (by simp) ?_⟩
  have s26:Same H14 H16:=s15.trans s16
  have keep:∀ H',Same H14 H'→Same H2 H':=fun H' s' c o e=>by
   refine s' _ _ (W314.same c o (fun z=>?_) (s3 _ _ e))
   subst z
   rw [hp] at e; cases e
  unfold xM
  try dsimp only
  refine sE (fun σ' H'=>σ'=[some (.ref aS),some el,some (.int n),some (.ref p),some (.ref b),some (.ref x),some v,o7]∧Same H14 H') ?_ (fun kk=>?_)
  rotate_left
  ·rcases hel.same (keep _ s26) with rfl | ⟨a,g,v',ks',ts',fs',rfl,h1,h2,h3,h4⟩
   ·exact⟨_,rfl,rfl,_,rfl,ifF (by simp) (ifF (by decide) (kk _ _ ⟨rfl,s26⟩))⟩
   obtain⟨g1,g2,g3⟩:=sM (ks:=ks') (ts:=ts') (fs:=fs') h4.tx
   refine⟨_,rfl,rfl,_,rfl,ifT (by simp) ?_⟩
   refine⟨_,rfl,a,_,_,_,rfl,rfl,SqT.of h1,rfl,_,rfl,a,_,_,_,rfl,rfl,SqT.of h1,rfl,g,v',ks',ts',fs',rfl,h2,h3,h4.okV,fun pe H17 s17 rde=>?_⟩
   refine⟨_,.ref pe,_,rfl,rde,g1,g2,g3,_,rfl,a,_,_,_,rfl,rfl,SqT.of (s17 _ _ h1),rfl,rfl,_,rfl,ifF (by simp) ?_⟩
   exact kk _ _ ⟨rfl,s26.trans s17⟩
  rintro σ' H17 ⟨rfl,s17⟩
  refine⟨_,rfl,_,rfl,_,rfl,_,rfl,b,v,ks,ts,fs,rfl,bkr s17,ok,(tv.same s17).okV,fun pd H18 s18 rdd=>?_⟩
  refine⟨_,.ref pd,_,rfl,rdd,e1,e2,e3,by show 3≤sizeLine; decide,fun T hT=>?_⟩
  have s19:=ad hT (.tup [.ref x,v,.str (gZ ks ts fs v).shown])
  have sF:=(s17.trans s18).trans s19
  exact⟨_,_,rfl,rfl,sL.trans (keep _ sF),.inr ⟨T,x,v,ks,ts,fs,rfl,aa,E14.sg.same sF,ok,tv.same sF⟩⟩
end
end Few
set_option maxHeartbeats 1000000
namespace FewE
open PySem L2 Few
theorem xo{K:XC}{mg:Str→Option Value}{x:Str}{C:Addr}(hb:mg x=some (.ref C))(q:PySem.W.excIn K C uD "ValueError.__new__"=true):cw K mg x C:=by
 intro h X
 refine⟨hb,?_⟩
 unfold PySem.W.excIn at q
 split at q
 ·rename_i dd cd sl ho
  split at q
  ·rename_i C' bm k0 k1 k2 k3 n k5 hm hs
   simp only [YK,beq_iff_eq,Bool.not_eq_true'] at q
   obtain⟨⟨⟨⟨⟨rfl,rfl⟩,hdel⟩,ht⟩,hok⟩,hni⟩:=q
   obtain⟨nm,bs,mro,ns,qn,hd,sn,sub,ab,col,del⟩:=cd
   dsimp only at hm hdel hok hni
   subst hm hdel
   have hsl:sl=#[k0,k1,k2,k3,some (.builtin "ValueError.__new__"),k5]:=by
    obtain⟨l⟩:=sl
    simp only at hs
    rw [hs]
   subst hsl
   exact⟨bm,ns,nm,qn,bs,hd,sn,sub,ab,col,dd,k0,k1,k2,k3,k5,_,X _ _ ho,.of_isNs (PySem.W.isNs_of_in X hok),PySem.W.nsMap_none_of_in X hok hni,PySem.W.tail_of_in X ht⟩
  ·cases q
 ·cases q
end FewE
set_option maxHeartbeats 4000000
namespace FewE
open PySem L2 Few
theorem funAt_mk{K:XC}{h:Heap}{mg:Str→Option Value}{x:Str}{st:Stmt}{ps:List Str}{f:Addr}{oc kV dc pm cd ct:Value}{od an:Option Addr}{sl:Array (Option Value)}(X:K.In h)(G:h.Ns mainGlobals mg)
  (a:PySem.W.nsIn K mainGlobals x=some (some (.ref f))) (l:K.lookup f=some ⟨oc,od,.func (PySem.W.fnOf x x (cz st) (bg st) (ag st) .none kV dc pm an cd ct),sl⟩) (c:PySem.W.codeIn K cd x=true) (k:PySem.W.keepIn K (.ref f)=true)
  (b:∀ (kV doc pm:Value) (an:Option Addr) (cdv ct:Value) (us:List Value),us.length=ps.length→bindArgs (PySem.W.fnOf x x (cz st) (bg st) (ag st) .none kV doc pm an cdv ct) ⟨us,[]⟩=pure (ps.zip us)):ah K mg x st ps:=
 ⟨f,_,i9 l c k,PySem.W.mg_of X G a,(i9 (st:=st) l c k).binds b⟩
def gO(K:XC)(C:Addr)(x q:Str)(st:Stmt)(ps:List Str):Prop:=∃ (f:Addr) (fd:FuncData),Fun K x q st f fd∧cg K fd ps []∧PySem.W.findIn K (.ref C) x=some (some (.ref f))∧PySem.W.isFn K (.ref f)=true∧PySem.W.keepIn K (.ref f)=true
theorem methAt_mk{K:XC}{x q:Str}{st:Stmt}{ps:List Str}{C f:Addr}{oc kV dc pm cd ct:Value}{od an:Option Addr}{sl:Array (Option Value)}
  (a:PySem.W.findIn K (.ref C) x=some (some (.ref f))) (i:PySem.W.isFn K (.ref f)=true) (l:K.lookup f=some ⟨oc,od,.func (PySem.W.fnOf x q (cz st) (bg st) (ag st) .none kV dc pm an cd ct),sl⟩) (c:PySem.W.codeIn K cd q=true) (k:PySem.W.keepIn K (.ref f)=true)
  (b:∀ (kV doc pm:Value) (an:Option Addr) (cdv ct:Value) (us:List Value),us.length=ps.length→bindArgs (PySem.W.fnOf x q (cz st) (bg st) (ag st) .none kV doc pm an cdv ct) ⟨us,[]⟩=pure (ps.zip us)):gO K C x q st ps:=
 ⟨f,_,i9 l c k,(i9 (st:=st) l c k).binds b,a,i,k⟩
theorem all_mk{l:PySem.W.OpenLaw}{w:World}{K:XC}{h:Heap}{mg:Str→Option Value}{fa C CB wa N fe x1 x2 x3 x4 x5 x6 x7 x8:Addr}{cdN fcd:ClassData}{fdd:Option Addr}{fsl:Array (Option Value)}{f45:Addr}{oc45 kV45 dc45 pm45 cd45 ct45:Value}{od45 an45:Option Addr}{sl45:Array (Option Value)}{tL:Tok}{tI0:Tok}{tI1:Tok}{tI2:Tok}{tI3:Tok}{tI4:Tok}{tw0 tw1 tw2 tw3 tw4:Tok}{wd:Option Addr}{wn:Nat}{ws:Array (Option Value)}(X:K.In h)(G:h.Ns mainGlobals mg)(hfa:mg "law"=some (.ref fa))
  (F0:ah K mg "_law_cell" fh lC2)
  (F1:ah K mg "_law_pot" gv lC8)
  (F2:ah K mg "_law_draw" fg lA6)
  (F3:ah K mg "_law_unlike" dL lB5)
  (F4:ah K mg "_law_book" fi lB1)
  (F5:ah K mg "_law_meant" d9 lD8)
  (F6:ah K mg "_law_variable" cU lB2)
  (F7:ah K mg "_law_term" cV lA3)
  (F8:ah K mg "_law_atom" fj lA1)
  (F9:ah K mg "_law_saying_in" bi lA1)
  (F10:ah K mg "_law_saying" dN lB0)
  (F11:ah K mg "_law_nested" dO lD6)
  (F12:ah K mg "_law_written" bO lA7)
  (F13:ah K mg "_law_sign" eZ lB3)
  (F14:ah K mg "_law_kind_of" cx lA0)
  (F15:ah K mg "_law_terms" cB lA2)
  (F16:ah K mg "_law_name" fc lA7)
  (F17:ah K mg "_law_bound" cC lA0)
  (F18:ah K mg "_law_is_saying" bj lA0)
  (F19:ah K mg "_law_read" e7 lC0)
  (F20:ah K mg "_law_spoilt" dM lC1)
  (F21:ah K mg "_law_within" cb lA7)
  (F22:ah K mg "_law_just" aA lE0)
  (F23:ah K mg "_law_told" aZ lC4)
  (F24:ah K mg "_law_due" gw lB9)
  (F25:ah K mg "is_list" eI lA8)
  (F26:ah K mg "is_name" eG lA8)
  (F27:ah K mg "check_apart" dw lD9)
  (F28:ah K mg "checked_kinds" cI lE3)
  (F29:ah K mg "checked_kind" cW lC5)
  (F30:ah K mg "checked_places" cq lC7)
  (F31:ah K mg "checked_sign_name" bL lE2)
  (F32:ah K mg "checked_tie" dv lD7)
  (F33:ah K mg "checked_function" bX lD1)
  (F34:ah K mg "check_many" dP lB8)
  (F35:ah K mg "word_and_things" b9 lC6)
  (F36:ah K mg "checked_row" bP lA5)
  (F37:ah K mg "checked_term" ce lA4)
  (F38:ah K mg "checked_equation" bf lB7)
  (F39:ah K mg "checked_binding" aX lA9)
  (F40:ah K mg "checked_saying" bc lA4)
  (F41:ah K mg "looked_over" du lD0)
  (F42:ah K mg "written" dD lA8)
  (F43:ah K mg "read_saying" dr lD4)
  (F44:ah K mg "bracketed" aY ["text"])
  (a45:PySem.W.nsIn K mainGlobals "law"=some (some (.ref f45)))
  (l45:K.lookup f45=some ⟨oc45,od45,.func (PySem.W.fnOf "law" "law" (cz fQ) (bg fQ) (ag fQ) .none kV45 dc45 pm45 an45 cd45 ct45),sl45⟩)
  (c45:PySem.W.codeIn K cd45 "law"=true)
  (k45:PySem.W.keepIn K (.ref f45)=true)
  (aC:PySem.W.nsIn K mainGlobals "Signs"=some (some (.ref C)))
  (aCB:PySem.W.nsIn K mainGlobals "SignTable"=some (some (.ref CB)))
  (M46:gO K C "__init__" "Signs.__init__" gy lB4)
  (M47:gO K C "kinds" "Signs.kinds" ky lC3)
  (M48:gO K C "ties" "Signs.ties" nI lC3)
  (M49:gO K C "functions" "Signs.functions" ee lC3)
  (M50:gO K CB "__init__" "SignTable.__init__" bM lD3)
  (pg:PySem.W.plainGet K C Str.empty=true)
  (hd:PySem.W.hasDictIn K C=true)
  (po:PySem.W.plainOver K C=true)
  (sa:PySem.W.findIn K (.ref C) "__setattr__"=some (some (.builtin "object.__setattr__")))
  (mk:PySem.W.makesIn K C=true)
  (kc:PySem.W.keepIn K (.ref C)=true)
  (n0:PySem.W.findIn K (.ref C) "kept_kinds"=some none)
  (n1:PySem.W.findIn K (.ref C) "kept_ties"=some none)
  (n2:PySem.W.findIn K (.ref C) "kept_functions"=some none)
  (pgB:PySem.W.plainGet K CB Str.empty=true)
  (hdB:PySem.W.hasDictIn K CB=true)
  (poB:PySem.W.plainOver K CB=true)
  (saB:PySem.W.findIn K (.ref CB) "__setattr__"=some (some (.builtin "object.__setattr__")))
  (mkB:PySem.W.makesIn K CB=true)
  (kcB:PySem.W.keepIn K (.ref CB)=true)
  (n0B:PySem.W.findIn K (.ref CB) "known_kinds"=some none)
  (n1B:PySem.W.findIn K (.ref CB) "tie_places"=some none)
  (n2B:PySem.W.findIn K (.ref CB) "function_places"=some none)
  (n3B:PySem.W.findIn K (.ref CB) "function_kinds"=some none)
  (z_len:PySem.W.nsIn K mainGlobals "len"=some none)
  (z_max:PySem.W.nsIn K mainGlobals "max"=some none)
  (z_abs:PySem.W.nsIn K mainGlobals "abs"=some none)
  (z_divmod:PySem.W.nsIn K mainGlobals "divmod"=some none)
  (z_list:PySem.W.nsIn K mainGlobals "list"=some none)
  (z_tuple:PySem.W.nsIn K mainGlobals "tuple"=some none)
  (z_range:PySem.W.nsIn K mainGlobals "range"=some none)
  (z_int:PySem.W.nsIn K mainGlobals "int"=some none)
  (z_str:PySem.W.nsIn K mainGlobals "str"=some none)
  (z_repr:PySem.W.nsIn K mainGlobals "repr"=some none)
  (z_isinstance:PySem.W.nsIn K mainGlobals "isinstance"=some none)
  (z_all:PySem.W.nsIn K mainGlobals "all"=some none)
  (z_set:PySem.W.nsIn K mainGlobals "set"=some none)
  (z_dict:PySem.W.nsIn K mainGlobals "dict"=some none)
  (z_zip:PySem.W.nsIn K mainGlobals "zip"=some none)
  (z_ValueError:PySem.W.nsIn K mainGlobals "ValueError"=some none)
  (z_enumerate:PySem.W.nsIn K mainGlobals "enumerate"=some none)
  (gL:PySem.W.nsIn K mainGlobals "LETTERS"=some (some (.str (Str.ofString "abcdefghijklmnopqrstuvwxyz") tL)))
  (gI0:PySem.W.nsIn K mainGlobals "LONGEST_NAME"=some (some (.int 12 tI0)))
  (gI1:PySem.W.nsIn K mainGlobals "MOST_KINDS"=some (some (.int 4 tI1)))
  (gI2:PySem.W.nsIn K mainGlobals "MOST_SIGNS"=some (some (.int 8 tI2)))
  (gI3:PySem.W.nsIn K mainGlobals "MOST_PLACES"=some (some (.int 2 tI3)))
  (gI4:PySem.W.nsIn K mainGlobals "DEEPEST"=some (some (.int 64 tI4)))
  (gW:PySem.W.nsIn K mainGlobals "WORDS_OF_SAYINGS"=some (some (.ref wa)))
  (lW:K.lookup wa=some ⟨.type "tuple",wd,.seq #[.str (Str.ofString "all") tw0,.str (Str.ofString "some") tw1,.str (Str.ofString "not") tw2,.str (Str.ofString "and") tw3,.str (Str.ofString "or") tw4] wn,ws⟩)
  (aN:PySem.W.nsIn K mainGlobals "NoSaying"=some (some (.ref N)))
  (aF:PySem.W.nsIn K mainGlobals "FewError"=some (some (.ref fe)))
  (aX1:PySem.W.nsIn K mainGlobals "NoNaming"=some (some (.ref x1)))
  (aX2:PySem.W.nsIn K mainGlobals "NoPart"=some (some (.ref x2)))
  (aX3:PySem.W.nsIn K mainGlobals "NoRow"=some (some (.ref x3)))
  (aX4:PySem.W.nsIn K mainGlobals "NoSigns"=some (some (.ref x4)))
  (aX5:PySem.W.nsIn K mainGlobals "NoSize"=some (some (.ref x5)))
  (aX6:PySem.W.nsIn K mainGlobals "NoText"=some (some (.ref x6)))
  (aX7:PySem.W.nsIn K mainGlobals "NoWorld"=some (some (.ref x7)))
  (aX8:PySem.W.nsIn K mainGlobals "TooMany"=some (some (.ref x8)))
  (xN:PySem.W.excIn K N uD "ValueError.__new__"=true)
  (xL:K.lookup N=some ⟨.type "type",fdd,.cls fcd,fsl⟩)
  (yga:PySem.W.findIn K (.ref N) "__getattribute__"=some (some (.builtin "BaseException.__getattribute__")))
  (ygn:PySem.W.findIn K (.ref N) "__getattr__"=some none)
  (ycl:PySem.W.findIn K (.ref N) "__class__"=some (some (.builtin "object.__class__")))
  (ymb:PySem.W.mroIn K N (.type "BaseException")=some true)
  (ymo:PySem.W.mroIn K N (.type "object")=some true)
  (yty:PySem.W.clsIn K N=some cdN)
  (yve:PySem.W.kitOne K (.ref N) (.type "ValueError")=some true)
  (yfe:PySem.W.kitOne K (.ref N) (.ref fe)=some true)
  (yot:PySem.W.kitAny K (.ref N) [.ref x1,.ref x2,.ref x3,.ref x4,.ref x5,.ref x6,.ref x7,.ref x8]=some false)
  (yup:PySem.W.mroIn K N (.ref N)=some true)
  : ∃ fd:FuncData,(∀ (s:Shared) (v:Value),BindsTo s fd ⟨[v],[]⟩ [("_law_script",v)])∧∀ base:Heap,K.In base→base.Ns mainGlobals mg→cK l.prog w K mg base CX0 37 fa fd lE1 (spLaw K):=by
 have T:ClS K C:=⟨⟨pg,hd,po,sa⟩,n0,n1,n2⟩
 have TB:ClT K CB:=⟨⟨pgB,hdB,poB,saB⟩,n0B,n1B,n2B,n3B⟩
 have GD:∃ u,mg "DEEPEST"=some u∧aq (.int 64) u:=⟨_,PySem.W.mg_of X G gI4,tI4,rfl⟩
 have Z:Bl mg:=⟨PySem.W.mg_none_of X G z_len,PySem.W.mg_none_of X G z_max,PySem.W.mg_none_of X G z_abs,PySem.W.mg_none_of X G z_divmod,PySem.W.mg_none_of X G z_list,PySem.W.mg_none_of X G z_tuple,PySem.W.mg_none_of X G z_range,PySem.W.mg_none_of X G z_int,PySem.W.mg_none_of X G z_str,PySem.W.mg_none_of X G z_repr,PySem.W.mg_none_of X G z_isinstance,PySem.W.mg_none_of X G z_all,PySem.W.mg_none_of X G z_set⟩
 have Gg:Gs K mg:=⟨⟨_,PySem.W.mg_of X G gL,tL,rfl⟩,⟨_,PySem.W.mg_of X G gI0,tI0,rfl⟩,⟨_,PySem.W.mg_of X G gI1,tI1,rfl⟩,⟨_,PySem.W.mg_of X G gI2,tI2,rfl⟩,⟨_,PySem.W.mg_of X G gI3,tI3,rfl⟩,wa,PySem.W.mg_of X G gW,fun H=>.inr ⟨_,_,_,lW,rfl,rfl,by show 5≤sizeLine; decide,.cons ⟨tw0,rfl⟩ (.cons ⟨tw1,rfl⟩ (.cons ⟨tw2,rfl⟩ (.cons ⟨tw3,rfl⟩ (.cons ⟨tw4,rfl⟩ (.nil)))))⟩⟩
 obtain⟨f46,fd46,F46,b46,a46,i46,k46⟩:=M46
 obtain⟨f47,fd47,F47,b47,a47,i47,k47⟩:=M47
 obtain⟨f48,fd48,F48,b48,a48,i48,k48⟩:=M48
 obtain⟨f49,fd49,F49,b49,a49,i49,k49⟩:=M49
 obtain⟨f50,fd50,F50,b50,a50,i50,k50⟩:=M50
 have FL:=i9 (st:=fQ) l45 c45 k45
 have e:=hfa.symm.trans (PySem.W.mg_of X G a45)
 cases e
 refine⟨PySem.W.fnOf "law" "law" (cz fQ) (bg fQ) (ag fQ) .none kV45 dc45 pm45 an45 cd45 ct45,fun s v=>.of_eq rfl,fun base _ _=>?_⟩
 have dCell:=wT (P:=l.prog) (w:=w) (base:=base) F0 Z
 have dPot:=yZ (P:=l.prog) (w:=w) (base:=base) F1 Z
 have dDraw:=wS (P:=l.prog) (w:=w) (base:=base) F2 Z
 have dUnlike:=qF (P:=l.prog) (w:=w) (base:=base) F3 Z dDraw
 have dBook:=wU (P:=l.prog) (w:=w) (base:=base) F4 Z dDraw dUnlike
 have dIl:=nX (P:=l.prog) (w:=w) (base:=base) F25 Z
 have dIn:=nW (P:=l.prog) (w:=w) (base:=base) F26 Z Gg
 have dCa:=uu (P:=l.prog) (w:=w) (base:=base) F27 Z
 have dKs:=um (P:=l.prog) (w:=w) (base:=base) F28 Z Gg dIl dIn dCa
 have dK:=wO (P:=l.prog) (w:=w) (base:=base) F29 Z dIn
 have dPl:=qH (P:=l.prog) (w:=w) (base:=base) F30 Z Gg dIl dK
 have dSn:=kK (P:=l.prog) (w:=w) (base:=base) F31 Z Gg dIn
 have dTie:=yX (P:=l.prog) (w:=w) (base:=base) F32 Z dIl dSn dPl
 have dFu:=wR (P:=l.prog) (w:=w) (base:=base) F33 Z dIl dSn dPl dK
 have dIni:=wQ (P:=l.prog) (w:=w) (base:=base) F46 Z Gg T dIl dKs dTie dFu dCa
 have dTk:=t5 (P:=l.prog) (w:=w) (base:=base) F47 Z T
 have dTt:=tZ (P:=l.prog) (w:=w) (base:=base) F48 Z T
 have dTf:=t6 (P:=l.prog) (w:=w) (base:=base) F49 Z T
 have O:=xo (PySem.W.mg_of X G aN) xN
 have TN:Xs K N fe [x1,x2,x3,x4,x5,x6,x7,x8]:=⟨⟨yga,ygn,ycl,ymb,ymo,by rw [yty]; rfl⟩,yve,yfe,yot,yup⟩
 have ON:mg "NoSaying"=some (.ref N)∧pX K N∧PySem.W.mroIn K N (.type "BaseException")=some true:=⟨PySem.W.mg_of X G aN,⟨_,_,_,xL⟩,ymb⟩
 have dIlO:=lX (P:=l.prog) (w:=w) (base:=base) F25 Z
 have dCm:=ug (P:=l.prog) (w:=w) (base:=base) F34 Z O
 have dWt:=tW (P:=l.prog) (w:=w) (base:=base) F35 Z O dIlO
 have dInE:=ue (P:=l.prog) (w:=w) (base:=base) F26 Z Gg
 have dTm:=jM (P:=l.prog) (w:=w) (base:=base) F37 F36 Z TB (PySem.W.mg_none_of X G z_zip) O dWt dCm
 have dSa:=lQ (P:=l.prog) (w:=w) (base:=base) F40 F39 F38 Z TB (PySem.W.mg_none_of X G z_dict) O dCm dWt dInE dTm 14
 have dTi:=nV (P:=l.prog) (w:=w) (base:=base) F50 Z T TB ⟨a47,i47,k47⟩ dTk b47 ⟨a48,i48,k48⟩ dTt b48 ⟨a49,i49,k49⟩ dTf b49
 have dLo:=ui (P:=l.prog) (w:=w) (base:=base) F41 Z GD ⟨mkB,a50,i50,kcB⟩ dTi (PySem.W.mg_of X G aCB) b50 dSa
 have dWn:=xQ (P:=l.prog) (w:=w) (base:=base) F42 Z 14
 have dBr:=y7 (P:=l.prog) (w:=w) (base:=base) F44 Z O
 have dRd:=ud (P:=l.prog) (w:=w) (base:=base) F43 Z O dLo dWn dBr
 have dMe:=uf (P:=l.prog) (w:=w) (base:=base) F5 Z
 have dVa:=yW (P:=l.prog) (w:=w) (base:=base) F6 Z dDraw dMe
 have dTr:=tY (P:=l.prog) (w:=w) (base:=base) F7 Z dDraw dVa 2
 have dAt:=wV (P:=l.prog) (w:=w) (base:=base) F8 Z dDraw dTr
 have dSi:=t8 (P:=l.prog) (w:=w) (base:=base) F9 Z dDraw dAt 4
 have dSy:=qG (P:=l.prog) (w:=w) (base:=base) F10 Z dSi
 have dNe:=wN (P:=l.prog) (w:=w) (base:=base) F11 Z
 have dLw:=xR (P:=l.prog) (w:=w) (base:=base) F12 Z (PySem.W.mg_none_of X G z_enumerate) 14
 have dSp:=yY (P:=l.prog) (w:=w) (base:=base) F20 Z dDraw
 have dWi:=tX (P:=l.prog) (w:=w) (base:=base) F21 Z 14
 have dSg:=wM (P:=l.prog) (w:=w) (base:=base) F13 Z
 have dNa:=uj (P:=l.prog) (w:=w) (base:=base) F16 Z
 have dKo:=uk (P:=l.prog) (w:=w) (base:=base) F14 F15 Z (PySem.W.mg_none_of X G z_zip) dSg
 have dIs:=uo (P:=l.prog) (w:=w) (base:=base) F18 F17 Z (PySem.W.mg_none_of X G z_dict) dSg dNa dKo 14
 have dLr:=uh (P:=l.prog) (w:=w) (base:=base) F19 Z dNe dLw dIs
 have dDu:=y6 (P:=l.prog) (w:=w) (base:=base) F24 Z dLr
 have dJu:=wP (P:=l.prog) (w:=w) (base:=base) F22 Z (PySem.W.mg_none_of X G z_ValueError) TN (PySem.W.mg_of X G aF) (PySem.W.mg_of X G aX1) (PySem.W.mg_of X G aX2) (PySem.W.mg_of X G aX3) (PySem.W.mg_of X G aX4) (PySem.W.mg_of X G aX5) (PySem.W.mg_of X G aX6) (PySem.W.mg_of X G aX7) (PySem.W.mg_of X G aX8)
 have dTo:=wH (P:=l.prog) (w:=w) (base:=base) F23 Z ON TN dJu dRd
 exact y3 FL Z dCell dPot dDraw dBook dSy dLw dSp dNe dWi dDu dTo ⟨mk,a46,i46,kc⟩ dIni (PySem.W.mg_of X G aC) b46
theorem walk{l:PySem.W.OpenLaw}{q:Program}{loose:List Str}{XP:(Str→Option Value)→Heap→Prop}{YP:World→Heap→Prop}{d:DefRec}{K:Params→XC}(hn:l.most=some 63)(hdf:d.params.defaults=[])(hq:PyProof.Rows.importsNone q=true)
  (hY:∀ (w:World) (h:Heap),YP w h→(K w.params).In h)
  (F:∀ (w:World) (mg:Str→Option Value) (fa:Addr) (h:Heap),(K w.params).In h→h.Ns mainGlobals mg→mg d.name=some (.ref fa)→
   ∃ fd:FuncData,(∀ (s:Shared) (u:Value),BindsTo s fd ⟨[u],[]⟩ [("_law_script",u)])∧∀ base:Heap,(K w.params).In base→base.Ns mainGlobals mg→cK l.prog w (K w.params) mg base CX0 37 fa fd lE1 (spLaw (K w.params))) :
  PySem.W.WalkO q loose XP YP l.row.toRowW d [] (fun f vs=>PySem.call f vs):=
 L2.walk_of (n:=63) (k:=37) (x:="_law_script") (CX:=fun _=>CX0) (sp:=fun w=>spLaw (K w.params)) hn (by decide) hdf ⟨rfl,rfl,by decide,by decide⟩ hq hY F (fun _ _ a ns hl _ hS=>⟨a,ns,rfl,hS,hl,fun _=>rfl⟩) fun _ _ _ _ _ z=>z
theorem ar1{p:List Value→Prop}(h:∀ a:Value,p [a])(us:List Value)(e:us.length=1):p us:=by
 obtain⟨a,rfl⟩:=Few.le1 e
 exact h _
theorem ar2{p:List Value→Prop}(h:∀ a b:Value,p [a,b])(us:List Value)(e:us.length=2):p us:=by
 obtain⟨a,b,rfl⟩:=Few.le2 e
 exact h _ _
theorem ar3{p:List Value→Prop}(h:∀ a b c:Value,p [a,b,c])(us:List Value)(e:us.length=3):p us:=by
 obtain⟨a,b,c,rfl⟩:=Few.le3 e
 exact h _ _ _
theorem ar4{p:List Value→Prop}(h:∀ a b c d:Value,p [a,b,c,d])(us:List Value)(e:us.length=4):p us:=by
 obtain⟨a,b,c,d,rfl⟩:=Few.le4 e
 exact h _ _ _ _
theorem ar5{p:List Value→Prop}(h:∀ a b c d e:Value,p [a,b,c,d,e])(us:List Value)(e:us.length=5):p us:=by
 obtain⟨a,b,c,d,e,rfl⟩:=Few.le5 e
 exact h _ _ _ _ _
end FewE
open PySem PySem.W PyProof.Rows
set_option maxRecDepth 100000 in
set_option maxHeartbeats 0 in
theorem PySem.Challenge.cw_fewthings_k15_spoilt_sayings_read_holds : PySem.Challenge.rw_fewthings_k15_spoilt_sayings_read.Holds := by
 w_on; o_law; k_head; (case hw=>w_witness2)
 k_fill
 refine FewE.walk (l:=PySem.Challenge.rw_fewthings_k15_spoilt_sayings_read) rfl rfl (by first | rfl | decide +kernel) (fun w h Y=>PySem.W.kIn_of Y) ?F
 case F=>
  intro w mg fa h KX G hmg
  refine' FewE.all_mk KX G hmg (FewE.funAt_mk KX G ?a0 ?l0 ?c0 ?k0 fun _ _ _ _ _ _=>FewE.ar2 fun _ _=>rfl) (FewE.funAt_mk KX G ?a1 ?l1 ?c1 ?k1 fun _ _ _ _ _ _=>FewE.ar1 fun _=>rfl) (FewE.funAt_mk KX G ?a2 ?l2 ?c2 ?k2 fun _ _ _ _ _ _=>FewE.ar2 fun _ _=>rfl) (FewE.funAt_mk KX G ?a3 ?l3 ?c3 ?k3 fun _ _ _ _ _ _=>FewE.ar3 fun _ _ _=>rfl) (FewE.funAt_mk KX G ?a4 ?l4 ?c4 ?k4 fun _ _ _ _ _ _=>FewE.ar3 fun _ _ _=>rfl) (FewE.funAt_mk KX G ?a5 ?l5 ?c5 ?k5 fun _ _ _ _ _ _=>FewE.ar1 fun _=>rfl) (FewE.funAt_mk KX G ?a6 ?l6 ?c6 ?k6 fun _ _ _ _ _ _=>FewE.ar3 fun _ _ _=>rfl) (FewE.funAt_mk KX G ?a7 ?l7 ?c7 ?k7 fun _ _ _ _ _ _=>FewE.ar5 fun _ _ _ _ _=>rfl) (FewE.funAt_mk KX G ?a8 ?l8 ?c8 ?k8 fun _ _ _ _ _ _=>FewE.ar4 fun _ _ _ _=>rfl) (FewE.funAt_mk KX G ?a9 ?l9 ?c9 ?k9 fun _ _ _ _ _ _=>FewE.ar4 fun _ _ _ _=>rfl) (FewE.funAt_mk KX G ?a10 ?l10 ?c10 ?k10 fun _ _ _ _ _ _=>FewE.ar3 fun _ _ _=>rfl) (FewE.funAt_mk KX G ?a11 ?l11 ?c11 ?k11 fun _ _ _ _ _ _=>FewE.ar1 fun _=>rfl) (FewE.funAt_mk KX G ?a12 ?l12 ?c12 ?k12 fun _ _ _ _ _ _=>FewE.ar1 fun _=>rfl) (FewE.funAt_mk KX G ?a13 ?l13 ?c13 ?k13 fun _ _ _ _ _ _=>FewE.ar2 fun _ _=>rfl) (FewE.funAt_mk KX G ?a14 ?l14 ?c14 ?k14 fun _ _ _ _ _ _=>FewE.ar3 fun _ _ _=>rfl) (FewE.funAt_mk KX G ?a15 ?l15 ?c15 ?k15 fun _ _ _ _ _ _=>FewE.ar4 fun _ _ _ _=>rfl) (FewE.funAt_mk KX G ?a16 ?l16 ?c16 ?k16 fun _ _ _ _ _ _=>FewE.ar1 fun _=>rfl) (FewE.funAt_mk KX G ?a17 ?l17 ?c17 ?k17 fun _ _ _ _ _ _=>FewE.ar3 fun _ _ _=>rfl) (FewE.funAt_mk KX G ?a18 ?l18 ?c18 ?k18 fun _ _ _ _ _ _=>FewE.ar3 fun _ _ _=>rfl) (FewE.funAt_mk KX G ?a19 ?l19 ?c19 ?k19 fun _ _ _ _ _ _=>FewE.ar2 fun _ _=>rfl) (FewE.funAt_mk KX G ?a20 ?l20 ?c20 ?k20 fun _ _ _ _ _ _=>FewE.ar2 fun _ _=>rfl) (FewE.funAt_mk KX G ?a21 ?l21 ?c21 ?k21 fun _ _ _ _ _ _=>FewE.ar1 fun _=>rfl) (FewE.funAt_mk KX G ?a22 ?l22 ?c22 ?k22 fun _ _ _ _ _ _=>FewE.ar1 fun _=>rfl) (FewE.funAt_mk KX G ?a23 ?l23 ?c23 ?k23 fun _ _ _ _ _ _=>FewE.ar2 fun _ _=>rfl) (FewE.funAt_mk KX G ?a24 ?l24 ?c24 ?k24 fun _ _ _ _ _ _=>FewE.ar2 fun _ _=>rfl) (FewE.funAt_mk KX G ?a25 ?l25 ?c25 ?k25 fun _ _ _ _ _ _=>FewE.ar1 fun _=>rfl) (FewE.funAt_mk KX G ?a26 ?l26 ?c26 ?k26 fun _ _ _ _ _ _=>FewE.ar1 fun _=>rfl) (FewE.funAt_mk KX G ?a27 ?l27 ?c27 ?k27 fun _ _ _ _ _ _=>FewE.ar1 fun _=>rfl) (FewE.funAt_mk KX G ?a28 ?l28 ?c28 ?k28 fun _ _ _ _ _ _=>FewE.ar1 fun _=>rfl) (FewE.funAt_mk KX G ?a29 ?l29 ?c29 ?k29 fun _ _ _ _ _ _=>FewE.ar2 fun _ _=>rfl) (FewE.funAt_mk KX G ?a30 ?l30 ?c30 ?k30 fun _ _ _ _ _ _=>FewE.ar2 fun _ _=>rfl) (FewE.funAt_mk KX G ?a31 ?l31 ?c31 ?k31 fun _ _ _ _ _ _=>FewE.ar1 fun _=>rfl) (FewE.funAt_mk KX G ?a32 ?l32 ?c32 ?k32 fun _ _ _ _ _ _=>FewE.ar2 fun _ _=>rfl) (FewE.funAt_mk KX G ?a33 ?l33 ?c33 ?k33 fun _ _ _ _ _ _=>FewE.ar2 fun _ _=>rfl) (FewE.funAt_mk KX G ?a34 ?l34 ?c34 ?k34 fun _ _ _ _ _ _=>FewE.ar2 fun _ _=>rfl) (FewE.funAt_mk KX G ?a35 ?l35 ?c35 ?k35 fun _ _ _ _ _ _=>FewE.ar2 fun _ _=>rfl) (FewE.funAt_mk KX G ?a36 ?l36 ?c36 ?k36 fun _ _ _ _ _ _=>FewE.ar5 fun _ _ _ _ _=>rfl) (FewE.funAt_mk KX G ?a37 ?l37 ?c37 ?k37 fun _ _ _ _ _ _=>FewE.ar4 fun _ _ _ _=>rfl) (FewE.funAt_mk KX G ?a38 ?l38 ?c38 ?k38 fun _ _ _ _ _ _=>FewE.ar4 fun _ _ _ _=>rfl) (FewE.funAt_mk KX G ?a39 ?l39 ?c39 ?k39 fun _ _ _ _ _ _=>FewE.ar5 fun _ _ _ _ _=>rfl) (FewE.funAt_mk KX G ?a40 ?l40 ?c40 ?k40 fun _ _ _ _ _ _=>FewE.ar4 fun _ _ _ _=>rfl) (FewE.funAt_mk KX G ?a41 ?l41 ?c41 ?k41 fun _ _ _ _ _ _=>FewE.ar2 fun _ _=>rfl) (FewE.funAt_mk KX G ?a42 ?l42 ?c42 ?k42 fun _ _ _ _ _ _=>FewE.ar1 fun _=>rfl) (FewE.funAt_mk KX G ?a43 ?l43 ?c43 ?k43 fun _ _ _ _ _ _=>FewE.ar2 fun _ _=>rfl) (FewE.funAt_mk KX G ?a44 ?l44 ?c44 ?k44 fun _ _ _ _ _ _=>FewE.ar1 fun _=>rfl) ?a45 ?l45 ?c45 ?k45 ?aC ?aCB (FewE.methAt_mk ?a46 ?i46 ?l46 ?c46 ?k46 fun _ _ _ _ _ _=>FewE.ar4 fun _ _ _ _=>rfl) (FewE.methAt_mk ?a47 ?i47 ?l47 ?c47 ?k47 fun _ _ _ _ _ _=>FewE.ar1 fun _=>rfl) (FewE.methAt_mk ?a48 ?i48 ?l48 ?c48 ?k48 fun _ _ _ _ _ _=>FewE.ar1 fun _=>rfl) (FewE.methAt_mk ?a49 ?i49 ?l49 ?c49 ?k49 fun _ _ _ _ _ _=>FewE.ar1 fun _=>rfl) (FewE.methAt_mk ?a50 ?i50 ?l50 ?c50 ?k50 fun _ _ _ _ _ _=>FewE.ar2 fun _ _=>rfl) ?pg ?hd ?po ?sa ?mk ?kc ?n0 ?n1 ?n2 ?pgB ?hdB ?poB ?saB ?mkB ?kcB ?n0B ?n1B ?n2B ?n3B ?z_len ?z_max ?z_abs ?z_divmod ?z_list ?z_tuple ?z_range ?z_int ?z_str ?z_repr ?z_isinstance ?z_all ?z_set ?z_dict ?z_zip ?z_ValueError ?z_enumerate ?gL ?gI0 ?gI1 ?gI2 ?gI3 ?gI4 ?gW ?lW ?aN ?aF ?aX1 ?aX2 ?aX3 ?aX4 ?aX5 ?aX6 ?aX7 ?aX8 ?xN ?xL ?yga ?ygn ?ycl ?ymb ?ymo ?yty ?yve ?yfe ?yot ?yup
  all_goals (try (first | k_is | kit_is | k_exc))
