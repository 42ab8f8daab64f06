import PyProof.Rows.All
import Wide.All
import OpenK.AllK
import Wide.FinOn
import PyProof.Rows.SortShellK
import KE.KSortTup
import Lean
import PyProof.EqAt
import PyProof.EqKinds
import PyProof.TupleCall
import PyProof.SetRoads
import PyProof.DictRoadsH
import PyProof.IsRules
import PyProof.CollectWalk
import PyProof.FactsAll.set
import PyProof.NeData
import PyProof.P3In
import PyProof.TupleOfSeq
import PyProof.ZipIter
import PyProof.Rows.ZipGen
import KE.KDictOf
import PyProof.AttrMissHeap
import PyProof.Rows.SumAny
import PyProof.DictIter
import PyProof.DictWalks
import PySem.Challenge.RW_strikeweave_k80_whole_sets_by_going_thro
namespace PySem.W.Fast
def tw4821658020985957211:=0
def tw11270647733958881459:=0
def tw8863101536968191133:=0
def tw17824334006975352534:=0
def tw3347246875276082539:=0
def tw5201150160784590803:=0
def tw10974233322773784930:=0
def tw12944993054808508929:=0
def tw11455039785835566414:=0
def tw8373907310732065070:=0
def tw2868188922975321437:=0
def tw10289228392301727513:=0
def tw5040449220373334520:=0
def tw15892581906609876042:=0
def tw15477680575136467869:=0
def tw6884307077309961647:=0
def tw447458485829909270:=0
def tw4089650387459201245:=0
def tw5456613618863932779:=0
def tw7985595823647591923:=0
def tw1964335452368814179:=0
def tw16061533873558586290:=0
def tw12920744480022567958:=0
def tw15313940742992250018:=0
def tw17703613371173056364:=0
def tw14231624384375872461:=0
def tw14107115790271077338:=0
def tw7309347840939432944:=0
def tw12549253382365338603:=0
def tw5536690813015698057:=0
def tw9176302293540039623:=0
def tw4062504712246924725:=0
def tw3139626365423797076:=0
def tw600942874860861698:=0
def tw10425442114973359575:=0
def tw16326170759634842561:=0
def tw10936165070320044339:=0
def tw6072748615568491081:=0
def tw4177535327350872407:=0
def tw4940903226809553843:=0
def tw16439254242471689785:=0
def tw5386140066704058504:=0
def tw3094353803255070319:=0
def tw14188174717318064548:=0
def tw10930902936618687518:=0
def tw15979318779754171416:=0
def tw4196772519222327938:=0
def tw14861575034293890586:=0
def tw10581686512224467342:=0
def tw12105567412215284155:=0
def tw14176321329497966421:=0
def tw9647478462590167654:=0
def tw11839373506741065245:=0
def tw2548742861290159002:=0
def tw14311525063749306085:=0
def tw1146632672863230620:=0
def tw1748238795838255713:=0
def tw3927828547750192726:=0
def tw14672588957763308159:=0
def tw15441972196436707773:=0
def tw7975973357266618196:=0
def tw8738580582238853309:=0
def tw3676498713711699063:=0
def tw10032243699312912948:=0
def tw16588525282004239280:=0
def tw4714606559054206069:=0
def tw2946123453660091881:=0
def tw2441895751048167813:=0
def tw17094551235248944403:=0
def tw11763546277425510955:=0
def tw8058048522216597993:=0
def tw15043512710559757402:=0
def tw8158722284601095394:=0
def tw10861373337946794087:=0
def tw18432524678295526523:=0
def tw12388074729360950823:=0
def tw2760180744393764183:=0
def tw5742609387938820106:=0
def tw14150754122277208023:=0
def tw3051114359195670588:=0
def tw7335455212703209666:=0
def tw12054856617186424932:=0
def tw10507934938739517259:=0
def tw9037598502814643053:=0
def tw3231613033869009902:=0
def tw15699038675360345358:=0
def tw17674614215329484427:=0
def tw10500989197686247290:=0
def tw11893875868317467197:=0
def tw15376482265252074774:=0
def tw1884164868490775993:=0
def tw15206982268083442043:=0
def tw4927620414237107164:=0
def tw10586685651614933621:=0
def tw8870800791701148449:=0
def tw14881985094239353537:=0
def tw18090761385953819238:=0
def tw9055150363056155228:=0
def tw2904608548787990025:=0
def tw7588836623679760523:=0
def tw12220703229236229576:=0
def tw13878837952965350645:=0
def tw11819337678642540544:=0
def tw15869778647362961494:=0
def tw4971859768842006928:=0
def tw8992148617650959334:=0
def tw4054333197173054315:=0
def tw3508611498186211668:=0
def tw4680029221535653402:=0
def tw12130707036524883056:=0
def tw12739523598542909323:=0
def tw4400414932543662779:=0
def tw17870807524992828550:=0
def tw6509574489972909858:=0
def tw10835181607089962180:=0
def tw6844368596973035730:=0
def tw5414908042078073364:=0
def tw3316948557392205842:=0
def tw9304390392937842329:=0
def tw2066026080741920838:=0
def tw8329631432865459476:=0
def tw4871232244925650946:=0
def tw6149128092048498714:=0
def tw3944659962826156238:=0
def tw11205324097604488700:=0
def tw440097257965353272:=0
def tw14196559606791716970:=0
def tw10833270590518404056:=0
def tw17703808401406852434:=0
def tw17746702886348782669:=0
def tw4145748674164212829:=0
def tw4415117167973459574:=0
def tw5223032913390531322:=0
def tw3833343692366219001:=0
def tw13332639747789841631:=0
def tw15486595584150254298:=0
def tw13871587941713712671:=0
def tw3252509741139131753:=0
def tw15362039258981613027:=0
def tw14212197205096974315:=0
def tw11243404098997871117:=0
def tw6379230362793830840:=0
def tw2524544680013923333:=0
def tw12412025331632760357:=0
def tw11636395967079371078:=0
def tw14270659059680260853:=0
def tw9764954556341427220:=0
def tw1728892184481089055:=0
def tw15966733812875989229:=0
def tw7793084204550171170:=0
def tw5632518810923295282:=0
def tw10732686466958945166:=0
def tw1947343838039861364:=0
def tw11271211961677054234:=0
def tw8058542697737747811:=0
def tw7141395946480945514:=0
def tw15272485076294865906:=0
def tw2938157182737617543:=0
def tw1316151176498577607:=0
def tw3703858996528876393:=0
def tw426919204013452030:=0
def tw2631164508659164937:=0
def tw6643940562271751054:=0
def tw17086297749584568280:=0
def tw14135314450897132976:=0
def tw10999329212677263313:=0
def tw15551726074544457955:=0
def tw16753050552324142685:=0
def tw14373119539322568715:=0
def tw10175816555200231465:=0
def tw13185757512631262560:=0
def tw626711451609471957:=0
def tw14191616062914089600:=0
def tw10033249169558814175:=0
def tw5278877548196992983:=0
def tw12795818561761283002:=0
def tw4518821013106763366:=0
def tw887803633637823297:=0
def tw16947647082746633328:=0
def tw12673402290468126888:=0
def tw7916986729802064309:=0
def tw13655956263092616824:=0
def tw17045638362350202506:=0
def tw12100599282914841683:=0
def tw5105970150036812696:=0
def tw947518649143365217:=0
def tw14931221422018820918:=0
def tw3556252840196161468:=0
def tw14594772407305882739:=0
def tw7289780751235875178:=0
def tw7816944262523634971:=0
def tw16746799957820678577:=0
def tw17747443328772059882:=0
def tw13508010119222169056:=0
def tw18264088812930058380:=0
def tw12491572824818566941:=0
def tw10422845822431872214:=0
def tw9725604406010361688:=0
def tw6748922916887301490:=0
def tw4071597196158102530:=0
def tw7300471720721147434:=0
def tw1487999276298912049:=0
def tw8580748381729073939:=0
def tw2527405238765581712:=0
def tw13769669433071040290:=0
def tw4809711547905269370:=0
def tw12167935365217555651:=0
def tw9203231238637721421:=0
def tw3480213199417244526:=0
def tw1405269948486263578:=0
def tw730169936808046301:=0
def tw2693893307802981515:=0
def tw17985415234071123485:=0
def tw5629363187673635447:=0
def tw6530300884852888766:=0
def tw14306131875857358233:=0
def tw13075365132855429937:=0
def tw10174482517523677618:=0
def tw5128865206222873502:=0
def tw249605311659986212:=0
def tw14750894344954339184:=0
def tw3609897144632555267:=0
def tw2231029634030718902:=0
def tw3909900986911851223:=0
def tw6576358044997541549:=0
def tw16126574192780895988:=0
def tw10152422231432233655:=0
def tw18123388046906217756:=0
def tw3049268001650104326:=0
def tw6450905936266003950:=0
def tw8584953758260234776:=0
def tw5601313250752340217:=0
def tw11655879308540588491:=0
def tw13995712914293816941:=0
def tw547280867651158155:=0
def tw7223656970482967646:=0
def tw1100390387490960336:=0
def tw14387577980424218006:=0
def tw9860736015986053122:=0
def tw14410931298606036355:=0
def tw8845385557754060305:=0
def tw13180087688255682608:=0
def tw11945610606043183069:=0
def tw5348761991201974586:=0
def tw10749398162402676810:=0
def tw1685086722732489762:=0
def tw12959693096542865300:=0
def tw636950641479607202:=0
def tw16687456276941737437:=0
def tw14290382276903136866:=0
def tw13956238926902306592:=0
def tw7008436684412839173:=0
def tw374060386127773202:=0
def tw569423623086112622:=0
def tw13099826620291911466:=0
def tw9147696257528777918:=0
def tw2008434974788547677:=0
def tw2457337869936854364:=0
def tw12962632719799078066:=0
def tw598155943806451479:=0
def tw8932069243804159185:=0
def tw17363506728746510680:=0
def tw17674040353500046967:=0
def tw1626525437927795692:=0
def tw10397974319941466681:=0
def tw2601379661023727921:=0
def tw10671177640252323947:=0
def tw12295927216653282576:=0
def tw1938593211555157178:=0
def tw4710009359330297986:=0
def tw4846127180158845988:=0
def tw6060090918234812061:=0
def tw14265056990795132050:=0
def tw16927566359870795014:=0
def tw7505474343350678639:=0
def tw15217711001040161833:=0
def tw11588063933017715658:=0
def tw6221740241692036388:=0
def tw1344529767018531358:=0
def tw3371697939012804950:=0
def tw9189722054492106619:=0
def tw13867309333111352223:=0
def tw3750016743828794934:=0
def tw8004642324881290648:=0
def tw5889578544995863804:=0
def tw293422090722370324:=0
def tw6267276348126395861:=0
def tw7914422750007147557:=0
def tw2189278619544214995:=0
def tw11143173072542338419:=0
def tw569542474876242903:=0
def tw14639295346211615299:=0
def tw13034628825483587872:=0
def tw18186790397087868412:=0
def tw13182951590138219340:=0
def tw2714271099194166147:=0
def tw15551689407064597743:=0
def tw7358119291233510848:=0
def tw12870517408848787383:=0
def tw5264742409158542186:=0
def tw4618946910670726915:=0
def tw4333127632707112483:=0
def tw9509959411616637337:=0
def tw11851415190474697830:=0
def tw1832247378590722536:=0
def tw14114682365046240531:=0
def tw7676335447040348198:=0
def tw14948508852409399277:=0
def tw6364948075782147934:=0
def tw11194867827479046490:=0
def tw1341663336521482090:=0
def tw2875989096696541892:=0
def tw6659011813150455365:=0
def tw4503036422532624229:=0
def tw14645969376108801026:=0
def tw14253413716872468679:=0
def tw12470957142911618284:=0
def tw756070134086207255:=0
def tw4446040893978053451:=0
def tw2684776083328757584:=0
def tw14420410382851087573:=0
def tw13006496689889212747:=0
def tw4399415545225602961:=0
def tw12537332744025155241:=0
def tw13306937372913673107:=0
def tw8199024784354143640:=0
def tw12040744156962859927:=0
end PySem.W.Fast
set_option autoImplicit false
set_option genSizeOf false
set_option genSizeOfSpec false
set_option bootstrap.genMatcherCode false
set_option compiler.extract_closed false
set_option linter.all false
set_option maxRecDepth 100000
namespace TS
open PySem PyProof.Rows
noncomputable def kk(κ:KeyKind)(p:Keyed):κ.α:=(κ.keyOf p.1).getD κ.dflt
noncomputable def Has(κ:KeyKind)(p:Keyed):Prop:=∃a,κ.keyOf p.1=some a
noncomputable def le(κ:KeyKind)(p q:Keyed):Prop:=κ.kle (kk κ p) (kk κ q)
noncomputable def Sor(κ:KeyKind)(l:List Keyed):Prop:=l.Pairwise (le κ)
structure Cmp(prog:Program)(w:World)(A:Around)(s:Shared)(κ:KeyKind)(kd:SortKind):Prop where
 lt:∀(x y:Value) (a b:κ.α) (Q:Bool->Shared->Prop) (E:Value->Shared->Prop),κ.keyOf x=some a->κ.keyOf y=some b->Q (κ.blt a b) s->wpAny (model prog w) A (keyLt' kd x y) Q E s
section
variable{prog:Program}{w:World}{A:Around}{E:Value->Shared->Prop}{s:Shared}{κ:KeyKind}{kd:SortKind}
theorem Gb(C:Cmp prog w A s κ kd){st:SortSt}{x y:Keyed}{Q:Option Bool->SortSt->Prop}(hk:kindOf st=kd)(hx:Has κ x)(hy:Has κ y)
  (h:Q (some (κ.blt (kk κ x) (kk κ y))) st):wpS (model prog w) A E s (lt' x y) Q st:=by
 obtain⟨a,ha⟩:=hx
 obtain⟨b,hb⟩:=hy
 have e1:kk κ x=a:=by unfold kk;rw[ha];rfl
 have e2:kk κ y=b:=by unfold kk;rw[hb];rfl
 rw[e1,e2]at h
 rw[lt'_eq]
 refine wpS_bind (wpS_get ?_)
 rw[hk]
 refine wpS_bind (wpS_lift (wpAny_attempt (C.lt x.1 y.1 a b _ _ ha hb ⟨rfl,?_⟩)))
 exact wpS_pure h
theorem C8{st:SortSt}{arr:Array Keyed}{i:Nat}{p:Keyed}{Q:Keyed->SortSt->Prop}(hi:arr[i]?=some p)(h:Q p st):wpS (model prog w) A E s (elem' arr i) Q st:=by
 rw[elem'_eq,hi];exact wpS_pure h
noncomputable def P0:Bool->Keyed->Array Keyed->Nat->Nat->Nat->StateT SortSt Sem (Option Nat):=sortPriv% PySem.Builtin.gallop
noncomputable def bey(left:Bool)(ky:Keyed)(ar:Array Keyed)(bs:Nat)(i:Nat):StateT SortSt Sem (Option Bool):=do
 let x <-elem' ar (bs+i)
 if left then lt' x ky else return(<-lt' ky x).map (!·)
theorem Km(left:Bool)(ky:Keyed)(ar:Array Keyed)(bs n ht:Nat):P0 left ky ar bs n ht =(do
  let mut la:=0
  let mut of:=1
  let mut lo:=0
  let mut hi:=0
  let some ri <-bey left ky ar bs ht | return none
  if ri then
   let mx:=n-ht
   for _ in [0:n] do
    if of ≥ mx then break
    let some mo <-bey left ky ar bs (ht+of) | return none
    if !mo then break
    la:=of
    of:=2*of+1
   lo:=ht+la+1
   hi:=ht+min of mx
  else
   let mx:=ht+1
   for _ in [0:n] do
    if of ≥ mx then break
    let some fo <-bey left ky ar bs (ht-of) | return none
    if fo then break
    la:=of
    of:=2*of+1
   lo:=ht+1-min of mx
   hi:=ht-la
  for _ in [0:n] do
   if lo ≥ hi then break
   let m:=lo +(hi-lo) / 2
   let some mo <-bey left ky ar bs m | return none
   if mo then lo:=m+1 else hi:=m
  return some hi):=rfl
noncomputable def PB(κ:KeyKind)(left:Bool)(ky:Keyed)(p:Keyed):Bool:=if left then κ.blt (kk κ p) (kk κ ky)else !κ.blt (kk κ ky) (kk κ p)
theorem Tc(C:Cmp prog w A s κ kd){st:SortSt}{left:Bool}{ky p:Keyed}{ar:Array Keyed}{bs i:Nat}{Q:Option Bool->SortSt->Prop}(hk:kindOf st=kd)(hky:Has κ ky)(hp:Has κ p)(hi:ar[bs+i]?=some p)
  (h:Q (some (PB κ left ky p)) st):wpS (model prog w) A E s (bey left ky ar bs i) Q st:=by
 unfold bey
 refine wpS_bind (C8 hi ?_)
 cases left with
 | true=>exact Gb C hk hp hky h
 | false =>
  simp only[Bool.false_eq_true,if_false]
  refine wpS_bind (Gb C hk hky hp ?_)
  exact wpS_pure h
theorem Kh(C:Cmp prog w A s κ kd){st:SortSt}{left:Bool}{ky:Keyed}{ar:Array Keyed}{bs n ht:Nat}{Q:Option Nat->SortSt->Prop}(hk:kindOf st=kd)(hky:Has κ ky)
  (P:Nat->Bool) (hP:∀i,i<n->∃p,ar[bs+i]?=some p/\Has κ p/\PB κ left ky p=P i) (mono:∀i j,i<=j->j<n->P j=true->P i=true) (hht:ht<n)
  (h:∀k,k<=n->(∀i,i<k->P i=true)->(∀i,k<=i->i<n->P i=false)->Q (some k) st):wpS (model prog w) A E s (P0 left ky ar bs n ht) Q st:=by
 have B:∀{st':SortSt} {i:Nat} {Q:Option Bool->SortSt->Prop},st'=st->i<n->Q (some (P i)) st'->wpS (model prog w) A E s (bey left ky ar bs i) Q st':=by
  intro st' i Q e hi q
  subst e
  obtain⟨p,h1,h2,h3⟩:=hP i hi
  exact Tc C hk hky h2 h1 (by rw[h3];exact q)
 have nmono:∀i j,i<=j->j<n->P i=false->P j=false:=by
  intro i j hij hj hi
  cases e:P j with
  | false=>rfl
  | true=>rw[mono i j hij hj e]at hi;cases hi
 rw[Km]
 dsimp only
 refine wpS_bind (B rfl hht ?_)
 dsimp only
 have S:∀{lo hi:Nat} {f:Nat->(Option (Option Nat)×Nat×Nat)->StateT SortSt Sem (ForInStep (Option (Option Nat)×Nat×Nat))},
   (∀x l h,wpS (model prog w) A E s (f x (none,l,h)) (fun r st'=>st'=st/\(if h<=l then r = .done (none,l,h)else if P (l +(h-l) / 2)=true then r = .yield (none,l +(h-l) / 2+1,h)else r = .yield (none,l,l +(h-l) / 2))) st\/¬(h<=l\/l +(h-l) / 2<n)) ->
   lo<=hi->hi<=n->(∀i,i<lo->P i=true)->(∀i,hi<=i->i<n->P i=false) ->
   wpS (model prog w) A E s (forIn [0:n] (none,lo,hi) f) (fun c st'=>st'=st/\∃k,c =(none,k,k)/\k<=n/\(∀i,i<k->P i=true)/\(∀i,k<=i->i<n->P i=false)) st:=by
  intro lo hi f hf h1 h2 h3 h4
  refine wpS_forRange (I:=fun x c st'=>st'=st/\∃l r,c =(none,l,r)/\l<=r/\r<=n/\r-l<=n-x/\(∀i,i<l->P i=true)/\(∀i,r<=i->i<n->P i=false)) ?_ ?_ ⟨rfl,lo,hi,rfl,h1,h2,by omega,h3,h4⟩
  ·rintro x c st' _ hx ⟨rfl,l,r,rfl,hl,hr,hm,ha,hb⟩
   have hin:r<=l\/l +(r-l) / 2<n:=by omega
   rcases hf x l r with q | q
   ·refine wpS_mono q fun z st2 ⟨e,q2⟩=>?_
    subst e
    by_cases hge:r<=l
    ·rw[if_pos hge]at q2
     subst q2
     have:l=r:=by omega
     subst this
     exact⟨rfl,l,rfl,hr,ha,hb⟩
    ·rw[if_neg hge]at q2
     cases hp:P (l +(r-l) / 2)with
     | true =>
      rw[if_pos hp]at q2
      subst q2
      exact⟨rfl,_,_,rfl,by omega,by omega,by omega,fun i hi=>mono i (l +(r-l) / 2) (by omega) (by omega) hp,hb⟩
     | false =>
      rw[if_neg (by rw[hp];exact Bool.false_ne_true)]at q2
      subst q2
      exact⟨rfl,_,_,rfl,by omega,by omega,by omega,ha,fun i hi1 hi2=>nmono (l +(r-l) / 2) i hi1 hi2 hp⟩
   ·exact absurd hin q
  ·rintro c st' ⟨rfl,l,r,rfl,hl,hr,hm,ha,hb⟩
   have:l=r:=by omega
   subst this
   exact⟨rfl,l,rfl,hr,ha,hb⟩
 cases hr:P ht with
 | true =>
  rw[if_pos rfl]
  refine wpS_bind (wpS_mono (wpS_forRange (I:=fun x c st'=>st'=st/\∃la of,c =(none,la,of)/\la<of/\x+1<=of/\ht+la<n/\P (ht+la)=true)
   (Q:=fun c st'=>st'=st/\∃la of,c =(none,la,of)/\la<of/\ht+la<n/\P (ht+la)=true/\(n-ht<=of\/(ht+of<n/\P (ht+of)=false))) ?st ?en ⟨rfl,0,1,rfl,by omega,by omega,by omega,hr⟩) ?po)
  case en =>
   rintro c st' ⟨rfl,la,of,rfl,a1,a2,a3,a4⟩
   exact⟨rfl,la,of,rfl,a1,a3,a4,.inl (by omega)⟩
  case st =>
   rintro x c st' _ hx ⟨rfl,la,of,rfl,a1,a2,a3,a4⟩
   dsimp only
   by_cases hge:of ≥ n-ht
   ·rw[if_pos hge]
    exact wpS_pure ⟨rfl,la,of,rfl,a1,a3,a4,.inl hge⟩
   ·rw[if_neg hge]
    refine wpS_bind (B rfl (show ht+of<n by omega) ?_)
    cases hp:P (ht+of)with
    | true=>exact wpS_pure ⟨rfl,of,2*of+1,rfl,by omega,by omega,by omega,hp⟩
    | false=>exact wpS_pure ⟨rfl,la,of,rfl,a1,a3,a4,.inr ⟨by omega,hp⟩⟩
  case po =>
   rintro c st' ⟨rfl,la,of,rfl,a1,a3,a4,a5⟩
   dsimp only
   refine wpS_bind (wpS_mono (S (lo:=ht+la+1) (hi:=ht+min of (n-ht)) (fun x l h'=>by
    dsimp only
    by_cases hge:h'<=l
    ·refine .inl ?_
     rw[if_pos hge]
     exact wpS_pure ⟨rfl,by rw[if_pos hge]⟩
    ·by_cases hn:l +(h' - l) / 2<n
     ·refine .inl ?_
      rw[if_neg hge]
      refine wpS_bind (B rfl hn ?_)
      dsimp only
      cases hp:P (l +(h' - l) / 2)with
      | true =>
       simp only[if_true]
       exact wpS_pure ⟨rfl,by rw[if_neg hge]⟩
      | false =>
       simp only[Bool.false_eq_true,if_false]
       exact wpS_pure ⟨rfl,by rw[if_neg hge]⟩
     ·exact .inr (by omega)) (by omega) (by omega) (fun i hi=>mono i (ht+la) (by omega) a3 a4) fun i hi1 hi2=>?_) fun c st' ⟨e,k,e2,b1,b2,b3⟩=>?_)
   ·rcases a5 with a5 | ⟨a5,a6⟩
    ·omega
    ·exact nmono (ht+of) i (by omega) hi2 a6
   ·subst e e2
    exact wpS_pure (h k b1 b2 b3)
 | false =>
  rw[if_neg Bool.false_ne_true]
  refine wpS_bind (wpS_mono (wpS_forRange (I:=fun x c st'=>st'=st/\∃la of,c =(none,la,of)/\la<of/\x+1<=of/\la<=ht/\P (ht-la)=false)
   (Q:=fun c st'=>st'=st/\∃la of,c =(none,la,of)/\la<of/\la<=ht/\P (ht-la)=false/\(ht+1<=of\/(of<=ht/\P (ht-of)=true))) ?st ?en ⟨rfl,0,1,rfl,by omega,by omega,by omega,hr⟩) ?po)
  case en =>
   rintro c st' ⟨rfl,la,of,rfl,a1,a2,a3,a4⟩
   exact⟨rfl,la,of,rfl,a1,a3,a4,.inl (by omega)⟩
  case st =>
   rintro x c st' _ hx ⟨rfl,la,of,rfl,a1,a2,a3,a4⟩
   dsimp only
   by_cases hge:of ≥ ht+1
   ·rw[if_pos hge]
    exact wpS_pure ⟨rfl,la,of,rfl,a1,a3,a4,.inl hge⟩
   ·rw[if_neg hge]
    refine wpS_bind (B rfl (show ht-of<n by omega) ?_)
    cases hp:P (ht-of)with
    | false=>exact wpS_pure ⟨rfl,of,2*of+1,rfl,by omega,by omega,by omega,hp⟩
    | true=>exact wpS_pure ⟨rfl,la,of,rfl,a1,a3,a4,.inr ⟨by omega,hp⟩⟩
  case po =>
   rintro c st' ⟨rfl,la,of,rfl,a1,a3,a4,a5⟩
   dsimp only
   refine wpS_bind (wpS_mono (S (lo:=ht+1-min of (ht+1)) (hi:=ht-la) (fun x l h'=>by
    dsimp only
    by_cases hge:h'<=l
    ·refine .inl ?_
     rw[if_pos hge]
     exact wpS_pure ⟨rfl,by rw[if_pos hge]⟩
    ·by_cases hn:l +(h' - l) / 2<n
     ·refine .inl ?_
      rw[if_neg hge]
      refine wpS_bind (B rfl hn ?_)
      dsimp only
      cases hp:P (l +(h' - l) / 2)with
      | true =>
       simp only[if_true]
       exact wpS_pure ⟨rfl,by rw[if_neg hge]⟩
      | false =>
       simp only[Bool.false_eq_true,if_false]
       exact wpS_pure ⟨rfl,by rw[if_neg hge]⟩
     ·exact .inr (by omega)) (by omega) (by omega) (fun i hi=>?_) fun i hi1 hi2=>nmono (ht-la) i (by omega) hi2 a4) fun c st' ⟨e,k,e2,b1,b2,b3⟩=>?_)
   ·rcases a5 with a5 | ⟨a5,a6⟩
    ·omega
    ·exact mono i (ht-of) (by omega) (by omega) a6
   ·subst e e2
    exact wpS_pure (h k b1 b2 b3)
end
section
variable{κ:KeyKind}
theorem le_refl(p:Keyed):le κ p p:=KeyOrd.kle_refl _
theorem le_trans{p q r:Keyed}(h1:le κ p q)(h2:le κ q r):le κ p r:=KeyOrd.kle_trans h1 h2
structure ML(κ:KeyKind)(a b:List Keyed)(o:List Keyed)(i j:Nat):Prop where
 perm:o.Perm (a.take i++b.take j)
 sor:Sor κ o
 la:∀x∈o,∀y∈a.drop i,le κ x y
 lb:∀x∈o,∀y∈b.drop j,le κ x y
theorem ML.sym{a b o:List Keyed}{i j:Nat}(m:ML κ a b o i j):ML κ b a o j i:=⟨m.perm.trans List.perm_append_comm,m.sor,m.lb,m.la⟩
theorem Em{l:List Keyed}(k:Nat)(h:Sor κ l):∀x∈l.take k,∀y∈l.drop k,le κ x y:=by
 have h':Sor κ (l.take k++l.drop k):=by rw[List.take_append_drop];exact h
 exact(List.pairwise_append.mp h').2.2
theorem ML.addA{a b o:List Keyed}{i j:Nat}(m:ML κ a b o i j)(sa:Sor κ a)(k:Nat)(hk:∀y∈(a.drop i).take k,∀z∈b.drop j,le κ y z):ML κ a b (o ++(a.drop i).take k) (i+k) j:=by
 have hs:Sor κ (a.drop i):=sa.sublist (List.drop_sublist _ _)
 refine⟨?_,?_,fun x hx y hy=>?_,fun x hx y hy=>?_⟩
 ·rw[List.take_add]
  refine(List.Perm.append_right _ m.perm).trans ?_
  rw[List.append_assoc,List.append_assoc]
  exact List.Perm.append_left _ List.perm_append_comm
 ·refine List.pairwise_append.mpr ⟨m.sor,hs.sublist (List.take_sublist _ _),fun x hx y hy=>m.la x hx y (List.mem_of_mem_take hy)⟩
 ·rw[<-List.drop_drop]at hy
  rcases List.mem_append.mp hx with hx | hx
  ·exact m.la x hx y (List.mem_of_mem_drop hy)
  ·exact Em k hs x hx y hy
 ·rcases List.mem_append.mp hx with hx | hx
  ·exact m.lb x hx y hy
  ·exact hk x hx y hy
theorem ML.addB{a b o:List Keyed}{i j:Nat}(m:ML κ a b o i j)(sb:Sor κ b)(k:Nat)(hk:∀y∈(b.drop j).take k,∀z∈a.drop i,le κ y z):ML κ a b (o ++(b.drop j).take k) i (j+k) :=
 (m.sym.addA sb k hk).sym
theorem ML.endA{a b o:List Keyed}{i j:Nat}(m:ML κ a b o i j)(sa:Sor κ a)(sb:Sor κ b)(h:∀y∈a.drop i,∀z∈b.drop j,le κ y z):Sor κ (o++a.drop i++b.drop j)/\(o++a.drop i++b.drop j).Perm (a++b):=by
 refine⟨?_,?_⟩
 ·refine List.pairwise_append.mpr ⟨List.pairwise_append.mpr ⟨m.sor,sa.sublist (List.drop_sublist _ _),m.la⟩,sb.sublist (List.drop_sublist _ _),fun x hx y hy=>?_⟩
  rcases List.mem_append.mp hx with hx | hx
  ·exact m.lb x hx y hy
  ·exact h x hx y hy
 ·have h1:(o++a.drop i++b.drop j).Perm ((a.take i++b.take j)++a.drop i++b.drop j):=List.Perm.append_right _ (List.Perm.append_right _ m.perm)
  refine h1.trans ?_
  have h2:((a.take i++b.take j)++a.drop i++b.drop j).Perm ((a.take i++a.drop i) ++(b.take j++b.drop j)):=by
   rw[List.append_assoc,List.append_assoc,List.append_assoc]
   refine List.Perm.append_left _ ?_
   rw[<-List.append_assoc,<-List.append_assoc]
   exact List.Perm.append_right _ List.perm_append_comm
  rw[List.take_append_drop,List.take_append_drop]at h2
  exact h2
theorem ML.endB{a b o:List Keyed}{i j:Nat}(m:ML κ a b o i j)(sa:Sor κ a)(sb:Sor κ b)(h:∀y∈b.drop j,∀z∈a.drop i,le κ y z):Sor κ (o++b.drop j++a.drop i)/\(o++b.drop j++a.drop i).Perm (a++b) :=
 ⟨(m.sym.endA sb sa h).1,(m.sym.endA sb sa h).2.trans List.perm_append_comm⟩
structure MH(κ:KeyKind)(a b:List Keyed)(o:List Keyed)(i j:Nat):Prop where
 perm:o.Perm (a.drop i++b.drop j)
 sor:Sor κ o
 la:∀x∈o,∀y∈a.take i,le κ y x
 lb:∀x∈o,∀y∈b.take j,le κ y x
theorem MH.sym{a b o:List Keyed}{i j:Nat}(m:MH κ a b o i j):MH κ b a o j i:=⟨m.perm.trans List.perm_append_comm,m.sor,m.lb,m.la⟩
theorem MH.addA{a b o:List Keyed}{i j:Nat}(m:MH κ a b o i j)(sa:Sor κ a)(k:Nat)(hki:k<=i)(hk:∀y∈(a.take i).drop k,∀z∈b.take j,le κ z y):MH κ a b ((a.take i).drop k++o) k j:=by
 have hs:Sor κ (a.take i):=sa.sublist (List.take_sublist _ _)
 have e:a.drop k =(a.take i).drop k++a.drop i:=by
  conv=>lhs;rw[<-List.take_append_drop i a]
  rw[List.drop_append]
  by_cases hl:i<=a.length
  ·rw[List.length_take,Nat.min_eq_left hl,Nat.sub_eq_zero_of_le hki,List.drop_zero]
  ·have:a.drop i = []:=List.drop_eq_nil_of_le (by lia)
   rw[this,List.drop_nil]
 have e2:(a.take i).take k=a.take k:=by rw[List.take_take,Nat.min_eq_left hki]
 refine⟨?_,?_,fun x hx y hy=>?_,fun x hx y hy=>?_⟩
 ·rw[e,List.append_assoc]
  exact List.Perm.append_left _ m.perm
 ·exact List.pairwise_append.mpr ⟨hs.sublist (List.drop_sublist _ _),m.sor,fun x hx y hy=>m.la y hy x (List.mem_of_mem_drop hx)⟩
 ·rw[<-e2]at hy
  rcases List.mem_append.mp hx with hx | hx
  ·exact Em k hs y hy x hx
  ·exact m.la x hx y (List.mem_of_mem_take hy)
 ·rcases List.mem_append.mp hx with hx | hx
  ·exact hk x hx y hy
  ·exact m.lb x hx y hy
theorem MH.addB{a b o:List Keyed}{i j:Nat}(m:MH κ a b o i j)(sb:Sor κ b)(k:Nat)(hkj:k<=j)(hk:∀y∈(b.take j).drop k,∀z∈a.take i,le κ z y):MH κ a b ((b.take j).drop k++o) i k :=
 (m.sym.addA sb k hkj hk).sym
theorem MH.endA{a b o:List Keyed}{i j:Nat}(m:MH κ a b o i j)(sa:Sor κ a)(sb:Sor κ b)(h:∀y∈a.take i,∀z∈b.take j,le κ y z):Sor κ (a.take i++b.take j++o)/\(a.take i++b.take j++o).Perm (a++b):=by
 refine⟨?_,?_⟩
 ·refine List.pairwise_append.mpr ⟨List.pairwise_append.mpr ⟨sa.sublist (List.take_sublist _ _),sb.sublist (List.take_sublist _ _),h⟩,m.sor,fun x hx y hy=>?_⟩
  rcases List.mem_append.mp hx with hx | hx
  ·exact m.la y hy x hx
  ·exact m.lb y hy x hx
 ·have h1:(a.take i++b.take j++o).Perm (a.take i++b.take j ++(a.drop i++b.drop j)):=List.Perm.append_left _ m.perm
  refine h1.trans ?_
  have h2:(a.take i++b.take j ++(a.drop i++b.drop j)).Perm ((a.take i++a.drop i) ++(b.take j++b.drop j)):=by
   rw[List.append_assoc,List.append_assoc]
   refine List.Perm.append_left _ ?_
   rw[<-List.append_assoc,<-List.append_assoc]
   exact List.Perm.append_right _ List.perm_append_comm
  rw[List.take_append_drop,List.take_append_drop]at h2
  exact h2
theorem MH.endB{a b o:List Keyed}{i j:Nat}(m:MH κ a b o i j)(sa:Sor κ a)(sb:Sor κ b)(h:∀y∈b.take j,∀z∈a.take i,le κ y z):Sor κ (b.take j++a.take i++o)/\(b.take j++a.take i++o).Perm (a++b) :=
 ⟨(m.sym.endA sb sa h).1,(m.sym.endA sb sa h).2.trans List.perm_append_comm⟩
end
section
variable{prog:Program}{w:World}{A:Around}{E:Value->Shared->Prop}{s:Shared}{κ:KeyKind}{kd:SortKind}
noncomputable def y3(g:Nat):StateT SortSt Sem Unit:=modify fun s=>SortSt.mk' (kindOf s) (arrOf s) (pendingOf s) g (failedOf s)
noncomputable def Cv:Array Keyed->Array Keyed->StateT SortSt Sem (Array Keyed):=sortPriv% PySem.Builtin.mergeLo
theorem Gg(a b:Array Keyed):Cv a b =(do
  rule "list.sort.merge-lo"
  let tot:=a.size+b.size
  let dn (o:Array Keyed) (i j:Nat):=o++a.extract i a.size++b.extract j b.size
  let lA (o:Array Keyed) (i j:Nat):=o++b.extract j b.size++a.extract i a.size
  let mut o:Array Keyed:=#[<-elem' b 0]
  let mut i:=0
  let mut j:=1
  if j == b.size then return dn o i j
  if i+1 == a.size then return lA o i j
  let mut mg:=gallopOf (<-get)
  for _ in [0:tot] do
   let mut ac:=0
   let mut bc:=0
   for _ in [0:tot] do
    let some bw <-lt' (<-elem' b j) (<-elem' a i) | return dn o i j
    if bw then
     o:=o.push (<-elem' b j);j:=j+1;bc:=bc+1;ac:=0
     if j == b.size then return dn o i j
     if bc ≥ mg then break
    else
     o:=o.push (<-elem' a i);i:=i+1;ac:=ac+1;bc:=0
     if i+1 == a.size then return lA o i j
     if ac ≥ mg then break
   rule "list.sort.gallop"
   mg:=mg+1
   for _ in [0:tot] do
    if mg>1 then mg:=mg-1
    y3 mg
    let some k <-P0 false (<-elem' b j) a i (a.size-i) 0 | return dn o i j
    ac:=k
    if k>0 then
     o:=o++a.extract i (i+k);i:=i+k
     if i+1 == a.size then return lA o i j
     if i == a.size then return dn o i j
    o:=o.push (<-elem' b j);j:=j+1
    if j == b.size then return dn o i j
    let some k <-P0 true (<-elem' a i) b j (b.size-j) 0 | return dn o i j
    bc:=k
    if k>0 then
     o:=o++b.extract j (j+k);j:=j+k
     if j == b.size then return dn o i j
    o:=o.push (<-elem' a i);i:=i+1
    if i+1 == a.size then return lA o i j
    if ac<7&&bc<7 then break
   mg:=mg+1
   y3 mg
  unsupported "internal:list.sort.merge-bound"):=rfl
noncomputable def Sm(st st':SortSt):Prop:=kindOf st'=kindOf st/\arrOf st'=arrOf st/\pendingOf st'=pendingOf st/\failedOf st'=failedOf st
theorem Sm.refl(st:SortSt):Sm st st:=⟨rfl,rfl,rfl,rfl⟩
theorem S4{st st0:SortSt}{g:Nat}{Q:Unit->SortSt->Prop}(hs:Sm st0 st)(h:∀st',Sm st0 st'->Q () st'):wpS (model prog w) A E s (y3 g) Q st :=
 wpS_modify (h _ ⟨hs.1,hs.2.1,hs.2.2.1,hs.2.2.2⟩)
theorem Bt{l:List Keyed}{i k:Nat}{y:Keyed}(h:y∈(l.drop i).take k):∃t,t<k/\l[i+t]?=some y:=by
 obtain⟨t,ht,e⟩:=List.mem_iff_getElem.mp h
 rw[List.length_take,List.length_drop]at ht
 refine⟨t,by lia,?_⟩
 rw[List.getElem_take,List.getElem_drop]at e
 rw[<-e]
 exact List.getElem?_eq_getElem (by lia)
theorem Hx{l:List Keyed}{i:Nat}{y:Keyed}(h:y∈l.drop i):∃t,i+t<l.length/\l[i+t]?=some y:=by
 obtain⟨t,ht,e⟩:=List.mem_iff_getElem.mp h
 rw[List.length_drop]at ht
 refine⟨t,by lia,?_⟩
 rw[List.getElem_drop]at e
 rw[<-e]
 exact List.getElem?_eq_getElem (by lia)
theorem Jz{l:List Keyed}{i:Nat}{y:Keyed}(h:y∈l.take i):∃t,t<i/\t<l.length/\l[t]?=some y:=by
 obtain⟨t,ht,e⟩:=List.mem_iff_getElem.mp h
 rw[List.length_take]at ht
 refine⟨t,by lia,by lia,?_⟩
 rw[List.getElem_take]at e
 rw[<-e]
 exact List.getElem?_eq_getElem (by lia)
theorem Rk{l:List Keyed}{i k:Nat}{y:Keyed}(h:y∈(l.take i).drop k):∃t,k<=t/\t<i/\l[t]?=some y:=by
 obtain⟨t,h1,h2⟩:=Hx h
 rw[List.length_take]at h1
 rw[List.getElem?_take_of_lt (by lia)]at h2
 exact⟨k+t,by lia,by lia,h2⟩
theorem j4{l:List Keyed}(h:Sor κ l){i j:Nat}{p q:Keyed}(hij:i<=j)(hp:l[i]?=some p)(hq:l[j]?=some q):le κ p q:=by
 obtain⟨h1,rfl⟩:=List.getElem?_eq_some_iff.mp hp
 obtain⟨h2,rfl⟩:=List.getElem?_eq_some_iff.mp hq
 rcases Nat.lt_or_eq_of_le hij with z | z
 ·exact List.pairwise_iff_getElem.mp h i j h1 h2 z
 ·subst z;exact le_refl _
theorem Co{l:List Keyed}(h:Sor κ l){i:Nat}{p:Keyed}(hp:l[i]?=some p):∀z∈l.drop i,le κ p z:=fun z hz=>by
 obtain⟨t,_,e⟩:=Hx hz
 exact j4 h (Nat.le_add_right _ _) hp e
theorem ar_get{a:Array Keyed}{i:Nat}{p:Keyed}:a[i]?=some p↔a.toList[i]?=some p:=by rw[Array.getElem?_toList]
theorem U8{a:Array Keyed}{i:Nat}(h:i<a.size):∃p,a[i]?=some p:=⟨a[i],getElem?_pos a i h⟩
theorem Oj{l:List Keyed}{i:Nat}{p:Keyed}(h:l[i]?=some p):(l.drop i).take 1 = [p]:=by
 obtain⟨h1,rfl⟩:=List.getElem?_eq_some_iff.mp h
 rw[List.drop_eq_getElem_cons h1]
 rfl
theorem Cl(a:Array Keyed)(i k:Nat):(a.extract i (i+k)).toList =(a.toList.drop i).take k:=by
 rw[Array.toList_extract,List.extract_eq_take_drop,Nat.add_sub_cancel_left]
theorem d6(a:Array Keyed)(i:Nat):(a.extract i a.size).toList=a.toList.drop i:=by
 rw[Array.toList_extract,List.extract_eq_take_drop,List.take_of_length_le]
 rw[List.length_drop,Array.length_toList]
 exact Nat.le_refl _
theorem f9(a:Array Keyed)(i:Nat):(a.extract 0 i).toList=a.toList.take i:=by
 rw[Array.toList_extract,List.extract_eq_take_drop,List.drop_zero,Nat.sub_zero]
noncomputable def Rm(κ:KeyKind)(a b r:Array Keyed):Prop:=Sor κ r.toList/\r.toList.Perm (a.toList++b.toList)
structure Pre(κ:KeyKind)(a b:Array Keyed):Prop where
 sa:Sor κ a.toList
 sb:Sor κ b.toList
 ka:∀(i:Nat) p,a[i]?=some p->Has κ p
 kb:∀(i:Nat) p,b[i]?=some p->Has κ p
 na:1<=a.size
 nb:1<=b.size
 first:∀q,b[0]?=some q->∀z∈a.toList,le κ q z
 last:∀p,a[a.size-1]?=some p->∀z∈b.toList,le κ z p
section
variable{a b o:Array Keyed}{i j k:Nat}{p q:Keyed}
theorem Pre.pushB(P:Pre κ a b)(m:ML κ a.toList b.toList o.toList i j)(hq:b[j]?=some q)(h:∀z∈a.toList.drop i,le κ q z):ML κ a.toList b.toList (o.push q).toList i (j+1):=by
 have h1:=m.addB P.sb 1 (by rw[Oj (ar_get.mp hq)];intro y hy;rw[List.mem_singleton.mp hy];exact h)
 rw[Oj (ar_get.mp hq)]at h1
 rw[Array.toList_push]
 exact h1
theorem Pre.pushA(P:Pre κ a b)(m:ML κ a.toList b.toList o.toList i j)(hp:a[i]?=some p)(h:∀z∈b.toList.drop j,le κ p z):ML κ a.toList b.toList (o.push p).toList (i+1) j:=by
 have h1:=m.addA P.sa 1 (by rw[Oj (ar_get.mp hp)];intro y hy;rw[List.mem_singleton.mp hy];exact h)
 rw[Oj (ar_get.mp hp)]at h1
 rw[Array.toList_push]
 exact h1
theorem Pre.extA(P:Pre κ a b)(m:ML κ a.toList b.toList o.toList i j)(h:∀y∈(a.toList.drop i).take k,∀z∈b.toList.drop j,le κ y z):ML κ a.toList b.toList (o++a.extract i (i+k)).toList (i+k) j:=by
 rw[Array.toList_append,Cl]
 exact m.addA P.sa k h
theorem Pre.extB(P:Pre κ a b)(m:ML κ a.toList b.toList o.toList i j)(h:∀y∈(b.toList.drop j).take k,∀z∈a.toList.drop i,le κ y z):ML κ a.toList b.toList (o++b.extract j (j+k)).toList i (j+k):=by
 rw[Array.toList_append,Cl]
 exact m.addB P.sb k h
theorem Pre.doneB(P:Pre κ a b)(m:ML κ a.toList b.toList o.toList i j)(hj:j=b.size):Rm κ a b (o++a.extract i a.size++b.extract j b.size):=by
 unfold Rm
 rw[Array.toList_append,Array.toList_append,d6,d6]
 refine m.endA P.sa P.sb fun y _ z hz=>?_
 rw[List.drop_eq_nil_of_le (by rw[Array.length_toList];lia)]at hz
 exact absurd hz (by simp)
theorem Pre.doneA(P:Pre κ a b)(m:ML κ a.toList b.toList o.toList i j)(hi:i=a.size):Rm κ a b (o++a.extract i a.size++b.extract j b.size):=by
 unfold Rm
 rw[Array.toList_append,Array.toList_append,d6,d6]
 refine m.endA P.sa P.sb fun y hy z _=>?_
 rw[List.drop_eq_nil_of_le (by rw[Array.length_toList];lia)]at hy
 exact absurd hy (by simp)
theorem Pre.lastA(P:Pre κ a b)(m:ML κ a.toList b.toList o.toList i j)(hi:i+1=a.size):Rm κ a b (o++b.extract j b.size++a.extract i a.size):=by
 unfold Rm
 rw[Array.toList_append,Array.toList_append,d6,d6]
 refine m.endB P.sa P.sb fun y hy z hz=>?_
 obtain⟨t,h1,h2⟩:=Hx hz
 rw[Array.length_toList]at h1
 have e:i+t=a.size-1:=by lia
 rw[e]at h2
 exact P.last z (ar_get.mpr h2) y (List.mem_of_mem_drop hy)
end
theorem Sm.knd{st st':SortSt}(h:Sm st st'){k:SortKind}(hk:kindOf st=k):kindOf st'=k:=h.1.trans hk
theorem d9(C:Cmp prog w A s κ kd){st:SortSt}{left:Bool}{ky:Keyed}{ar:Array Keyed}{bs n ht:Nat}{Q:Option Nat->SortSt->Prop}(hk:kindOf st=kd)(hky:Has κ ky)
  (hsz:bs+n<=ar.size) (hh:∀(i:Nat) p,ar[i]?=some p->Has κ p) (hs:∀(u v:Nat) p q,u<=v->v<n->ar[bs+u]?=some p->ar[bs+v]?=some q->le κ p q) (hht:ht<n)
  (h:∀k,k<=n->(∀(t:Nat) p,t<k->ar[bs+t]?=some p->PB κ left ky p=true)->(∀(t:Nat) p,k<=t->t<n->ar[bs+t]?=some p->PB κ left ky p=false)->Q (some k) st) :
  wpS (model prog w) A E s (P0 left ky ar bs n ht) Q st:=by
 have key:∀t,t<n->∃p,ar[bs+t]?=some p:=fun t ht=>U8 (by lia)
 refine Kh C hk hky (fun t=>match ar[bs+t]? with | some p=>PB κ left ky p | none=>false) (fun i hi=>?_) (fun i j hij hj hp=>?_) hht fun k hk1 h1 h2=>?_
 ·obtain⟨p,hp⟩:=key i hi
  exact⟨p,hp,hh _ p hp,by rw[hp]⟩
 ·obtain⟨p,e1⟩:=key i (by lia)
  obtain⟨q,e2⟩:=key j hj
  rw[e2]at hp
  rw[e1]
  have l:=hs i j p q hij hj e1 e2
  dsimp only at hp⊢
  unfold PB at hp⊢
  cases left with
  | true =>
   simp only[if_true]at hp⊢
   exact KeyOrd.klt_of_kle_of_klt l hp
  | false =>
   simp only[Bool.false_eq_true,if_false,Bool.not_eq_true']at hp⊢
   exact KeyOrd.kle_trans l hp
 ·refine h k hk1 (fun t p ht hp=>?_) fun t p ht1 ht2 hp=>?_
  ·have:=h1 t ht
   rw[hp]at this
   exact this
  ·have:=h2 t ht1 ht2
   rw[hp]at this
   exact this
theorem Cy{ky p:Keyed}(h:PB κ false ky p=true):le κ p ky:=by
 unfold PB at h
 show κ.blt (kk κ ky) (kk κ p)=false
 simpa using h
theorem Al{ky p:Keyed}(h:PB κ false ky p=false):κ.klt (kk κ ky) (kk κ p):=by
 unfold PB at h
 show κ.blt (kk κ ky) (kk κ p)=true
 simpa using h
theorem Hz{ky p:Keyed}(h:PB κ true ky p=true):κ.klt (kk κ p) (kk κ ky):=by
 unfold PB at h
 show κ.blt (kk κ p) (kk κ ky)=true
 simpa using h
theorem Ch{ky p:Keyed}(h:PB κ true ky p=false):le κ ky p:=by
 unfold PB at h
 show κ.blt (kk κ p) (kk κ ky)=false
 simpa using h
section
variable{α:Type}{Q:α->SortSt->Prop}{st:SortSt}
theorem O4{c:Prop}{_:Decidable c}{t e:StateT SortSt Sem α}(h1:c->wpS (model prog w) A E s t Q st)(h2:¬c->wpS (model prog w) A E s e Q st):wpS (model prog w) A E s (if c then t else e) Q st:=by
 split
 ·rename_i h;exact h1 h
 ·rename_i h;exact h2 h
theorem J7{x y:Nat}{t e:StateT SortSt Sem α}(h1:x=y->wpS (model prog w) A E s t Q st)(h2:x≠y->wpS (model prog w) A E s e Q st):wpS (model prog w) A E s (if(x == y)=true then t else e) Q st :=
 O4 (fun h=>h1 (eq_of_beq h)) fun h=>h2 fun z=>h (beq_iff_eq.mpr z)
theorem Lv{c:Prop}{_:Decidable c}{t:StateT SortSt Sem α}{F:Nat->StateT SortSt Sem α}(x:Nat){y:Nat}(h:∀g,wpS (model prog w) A E s (F g) Q st)(e:t=F x):wpS (model prog w) A E s (if c then t else F y) Q st:=by
 subst e
 exact O4 (fun _=>h _) fun _=>h _
theorem Dk{c:Prop}{_:Decidable c}{t:StateT SortSt Sem α}{F:Array Keyed->Nat->StateT SortSt Sem α}{o:Array Keyed}{i:Nat}(R:Array Keyed->Nat->Prop)(h:∀o i,R o i->wpS (model prog w) A E s (F o i) Q st)
  (hT:(∀o i,R o i->wpS (model prog w) A E s (F o i) Q st)->c->wpS (model prog w) A E s t Q st) (hE:¬c->R o i):wpS (model prog w) A E s (if c then t else F o i) Q st:=O4 (hT h) fun z=>h _ _ (hE z)
end
theorem Nm{α β:Type}{r0:Sem Unit}{el:StateT SortSt Sem Keyed}{x0:Keyed}{c1 c2:Prop}{_:Decidable c1}{_:Decidable c2}{t1 t2:Keyed->StateT SortSt Sem α}{ini:Keyed->SortSt->β}{n:Nat}{f:Nat->β->StateT SortSt Sem (ForInStep β)}{g:β->StateT SortSt Sem α}{Q:α->SortSt->Prop}{st:SortSt}
  (hr:∀R:Unit->SortSt->Prop,R () st->wpS (model prog w) A E s (liftM r0:StateT SortSt Sem Unit) R st) (he:∀R:Keyed->SortSt->Prop,R x0 st->wpS (model prog w) A E s el R st) (h1:c1->wpS (model prog w) A E s (t1 x0) Q st) (h2:¬c1->c2->wpS (model prog w) A E s (t2 x0) Q st)
  (h3:¬c1->¬c2->wpS (model prog w) A E s (forIn [0:n] (ini x0 st) f) (fun c st'=>wpS (model prog w) A E s (g c) Q st') st) :
  wpS (model prog w) A E s ((liftM r0:StateT SortSt Sem Unit) >>= fun _=>el >>= fun x=>if c1 then t1 x else if c2 then t2 x else get >>= fun st'=>forIn [0:n] (ini x st') f >>= g) Q st :=
 wpS_bind (hr _ (wpS_bind (he _ (O4 h1 fun z1=>O4 (h2 z1) fun z2=>wpS_bind (wpS_get (wpS_bind (h3 z1 z2)))))))
noncomputable def MR(κ:KeyKind)(a b:Array Keyed)(st:SortSt){β:Type}(c:Option (Array Keyed)×β)(st':SortSt):Prop:=Sm st st'/\∃r,c.1=some r/\Rm κ a b r
theorem MR.mk{a b r:Array Keyed}{st st':SortSt}{β:Type}{c:β}(sm:Sm st st')(h:Rm κ a b r):MR κ a b st (some r,c) st':=⟨sm,r,rfl,h⟩
structure LoP(κ:KeyKind)(a b:Array Keyed)(n:Nat)(o:Array Keyed)(i j:Nat):Prop where
 m:ML κ a.toList b.toList o.toList i j
 hi:i+1<a.size
 hj:j<b.size
 hn:n<=i+j
theorem LoP.putB{a b o o':Array Keyed}{n i j:Nat}(h:LoP κ a b n o i j)(m:ML κ a.toList b.toList o'.toList i (j+1))(e:j+1≠b.size):LoP κ a b (n+1) o' i (j+1):=⟨m,h.hi,Nat.lt_of_le_of_ne h.hj e,Nat.succ_le_succ h.hn⟩
theorem LoP.putA{a b o o':Array Keyed}{n i j:Nat}(h:LoP κ a b n o i j)(m:ML κ a.toList b.toList o'.toList (i+1) j)(e:i+1+1≠a.size):LoP κ a b (n+1) o' (i+1) j:=⟨m,Nat.lt_of_le_of_ne h.hi e,h.hj,by rw[Nat.add_right_comm];exact Nat.succ_le_succ h.hn⟩
theorem LoP.mono{a b o:Array Keyed}{n n' i j:Nat}(h:LoP κ a b n o i j)(l:n'<=n):LoP κ a b n' o i j:=⟨h.m,h.hi,h.hj,Nat.le_trans l h.hn⟩
noncomputable def zBh(κ:KeyKind)(a b:Array Keyed)(st:SortSt)(n:Nat)(c:Option (Array Keyed)×Array Keyed×Nat×Nat×Nat)(st':SortSt):Prop:=Sm st st'/\∃o i j mg,c =(none,o,i,j,mg)/\LoP κ a b n o i j
noncomputable def LoI2(κ:KeyKind)(a b:Array Keyed)(st:SortSt)(n:Nat)(c:Option (Array Keyed)×Array Keyed×Nat×Nat×Nat×Nat)(st':SortSt):Prop:=Sm st st'/\∃o i j ac bc,c =(none,o,i,j,ac,bc)/\LoP κ a b n o i j
noncomputable def LoI3(κ:KeyKind)(a b:Array Keyed)(st:SortSt)(n:Nat)(c:Option (Array Keyed)×Array Keyed×Nat×Nat×Nat×Nat×Nat)(st':SortSt):Prop:=Sm st st'/\∃o i j mg ac bc,c =(none,o,i,j,mg,ac,bc)/\LoP κ a b n o i j
theorem LoI2.mk{a b o:Array Keyed}{st st':SortSt}{n i j ac bc:Nat}(sm:Sm st st')(h:LoP κ a b n o i j):LoI2 κ a b st n (none,o,i,j,ac,bc) st':=⟨sm,_,_,_,_,_,rfl,h⟩
theorem LoI3.mk{a b o:Array Keyed}{st st':SortSt}{n i j mg ac bc:Nat}(sm:Sm st st')(h:LoP κ a b n o i j):LoI3 κ a b st n (none,o,i,j,mg,ac,bc) st':=⟨sm,_,_,_,_,_,_,rfl,h⟩
theorem Gs(C:Cmp prog w A s κ kd){st:SortSt}{a b:Array Keyed}{Q:Array Keyed->SortSt->Prop}(hk:kindOf st=kd)(P:Pre κ a b)
  (h:∀r st',Sm st st'->Rm κ a b r->Q r st'):wpS (model prog w) A E s (Cv a b) Q st:=by
 rw[Gg]
 obtain⟨b0,hb0⟩:=U8 (a:=b) (i:=0) P.nb
 have m0:ML κ a.toList b.toList (#[]:Array Keyed).toList 0 0:=⟨by simp,List.Pairwise.nil,fun x hx=>absurd hx (by simp),fun x hx=>absurd hx (by simp)⟩
 have m1:ML κ a.toList b.toList (#[b0]:Array Keyed).toList 0 1:=by
  have:=P.pushB m0 hb0 (by rw[List.drop_zero];exact P.first b0 hb0)
  simpa using this
 apply Nm (x0:=b0) (fun R z=>wpS_lift (wpAny_rule ⟨rfl,z⟩)) (fun R z=>C8 hb0 z)
 case h1=>exact fun hb1=>wpS_pure (h _ _ (Sm.refl _) (P.doneB m1 (eq_of_beq hb1)))
 case h2=>exact fun _ ha1=>wpS_pure (h _ _ (Sm.refl _) (P.lastA m1 (eq_of_beq ha1)))
 intro hb1 ha1
 have p1:LoP κ a b 1 #[b0] 0 1:=⟨m1,Nat.lt_of_le_of_ne P.na fun z=>ha1 (beq_iff_eq.mpr z),Nat.lt_of_le_of_ne P.nb fun z=>hb1 (beq_iff_eq.mpr z),Nat.le_refl _⟩
 refine wpS_mono (wpS_forRange (I:=fun x=>zBh κ a b st (x+1)) (Q:=MR κ a b st) ?st ?en ⟨Sm.refl _,_,_,_,_,rfl,p1⟩) ?po
 case po =>
  rintro⟨c1,c2⟩ st' ⟨sm,r,e,hr⟩
  cases e
  exact wpS_pure (h r st' sm hr)
 case en =>
  rintro c st' ⟨sm,o,i,j,mg,rfl,p⟩
  obtain⟨_,h1,h2,h3⟩:=p
  exfalso
  lia
 case st =>
  rintro x c st' _ hx ⟨sm,o,i,j,mg,rfl,p⟩
  refine wpS_bind (wpS_mono (wpS_forRange (I:=fun _=>LoI2 κ a b st (x+1)) (Q:=fun c st'=>MR κ a b st c st'\/LoI2 κ a b st (x+1) c st') ?st1 ?en1 (LoI2.mk sm p)) ?po1)
  case en1=>exact fun c st2 z=>.inr z
  case st1 =>
   rintro x2 c st2 _ _ ⟨sm2,o,i',j',ac,bc,rfl,p2⟩
   obtain⟨bj,hbj⟩:=U8 (a:=b) (i:=j') p2.hj
   obtain⟨ai,hai⟩:=U8 (a:=a) (i:=i') (Nat.lt_of_succ_lt p2.hi)
   refine wpS_bind (C8 hbj (wpS_bind (C8 hai (wpS_bind (Gb C (sm2.knd hk) (P.kb _ _ hbj) (P.ka _ _ hai) ?_)))))
   refine O4 (fun hlt=>wpS_bind (C8 hbj ?_)) fun hlt=>wpS_bind (C8 hai ?_)
   ·have m3:=P.pushB p2.m hbj fun z hz=>le_trans (KeyOrd.kle_of_klt hlt) (Co P.sa (ar_get.mp hai) z hz)
    refine J7 (fun e1=>wpS_pure (.inl (MR.mk sm2 (P.doneB m3 e1)))) fun e1=>?_
    have p3:=(p2.putB m3 e1).mono (Nat.le_succ _)
    exact O4 (fun _=>wpS_pure (.inr (LoI2.mk sm2 p3))) fun _=>wpS_pure (LoI2.mk sm2 p3)
   ·have m3:=P.pushA p2.m hai fun z hz=>le_trans (show le κ ai bj from Bool.eq_false_iff.mpr hlt) (Co P.sb (ar_get.mp hbj) z hz)
    refine J7 (fun e1=>wpS_pure (.inl (MR.mk sm2 (P.lastA m3 e1)))) fun e1=>?_
    have p3:=(p2.putA m3 e1).mono (Nat.le_succ _)
    exact O4 (fun _=>wpS_pure (.inr (LoI2.mk sm2 p3))) fun _=>wpS_pure (LoI2.mk sm2 p3)
  case po1 =>
   rintro⟨c1,c2⟩ st2 (⟨sm2,r,e,hr⟩ | ⟨sm2,o2,i2,j2,ac,bc,e,p2⟩)
   ·cases e
    exact wpS_pure (MR.mk sm2 hr)
   ·cases e
    refine wpS_bind (wpS_lift (wpAny_rule ⟨rfl,?_⟩))
    refine wpS_bind (wpS_mono (wpS_forRange (I:=fun x3=>LoI3 κ a b st (x+1+x3)) (Q:=fun c st'=>MR κ a b st c st'\/LoI3 κ a b st (x+1+1) c st') ?st2 ?en2 (LoI3.mk sm2 p2)) ?po2)
    case en2 =>
     rintro c st3 ⟨sm3,o',i',j',mg',ac,bc,rfl,p3⟩
     refine .inr (LoI3.mk sm3 (p3.mono ?_))
     have:=P.na
     lia
    case po2 =>
     rintro⟨c1,c2⟩ st3 (⟨sm3,r,e,hr⟩ | ⟨sm3,o',i',j',mg',ac,bc,e,p3⟩)
     ·cases e
      exact wpS_pure (MR.mk sm3 hr)
     ·cases e
      refine wpS_bind (S4 sm3 fun st4 sm4=>?_)
      exact wpS_pure ⟨sm4,_,_,_,_,rfl,p3⟩
    case st2 =>
     rintro x3 c st3 _ _ ⟨sm3,o3,i3,j3,mg3,ac3,bc3,rfl,p3⟩
     obtain⟨bj,hbj⟩:=U8 (a:=b) (i:=j3) p3.hj
     have hi3:i3 +(a.size-i3)<=a.size:=by rw[Nat.add_sub_cancel' (Nat.le_of_lt (Nat.lt_of_succ_lt p3.hi))];exact Nat.le_refl _
     have hj3:=p3.hj
     apply Lv (mg3-1) (y:=mg3)
     case e=>exact rfl
     intro g
     refine wpS_bind (S4 sm3 fun st4 sm4=>?_)
     refine wpS_bind (C8 hbj (wpS_bind (d9 C (sm4.knd hk) (P.kb _ _ hbj) hi3 P.ka (fun u v p q huv _ e1 e2=>j4 P.sa (Nat.add_le_add_left huv _) (ar_get.mp e1) (ar_get.mp e2)) (Nat.sub_pos_of_lt (Nat.lt_of_succ_lt p3.hi)) fun k hk1 k1 k2=>?_)))
     have m4:ML κ a.toList b.toList (o3++a.extract i3 (i3+k)).toList (i3+k) j3:=P.extA p3.m fun y hy z hz=>by
      obtain⟨t,ht,e⟩:=Bt hy
      exact le_trans (Cy (k1 t y ht (ar_get.mpr e))) (Co P.sb (ar_get.mp hbj) z hz)
     have hbz:∀z∈a.toList.drop (i3+k),le κ bj z:=fun z hz=>by
      obtain⟨t,ht,e⟩:=Hx hz
      rw[Array.length_toList]at ht
      exact KeyOrd.kle_of_klt (Al (k2 (k+t) z (Nat.le_add_right _ _) (by lia) (by rw[<-Nat.add_assoc];exact ar_get.mpr e)))
     apply Dk (o:=o3) (i:=i3) (fun o i=>LoP κ a b (x+1+x3) o i j3/\∀z∈a.toList.drop i,le κ bj z)
     ·rintro o4 i4 ⟨p4,hbz⟩
      refine wpS_bind (C8 hbj ?_)
      have m5:=P.pushB p4.m hbj hbz
      refine J7 (fun e3=>wpS_pure (.inl (MR.mk sm4 (P.doneB m5 e3)))) fun e3=>?_
      have p5:=p4.putB m5 e3
      generalize o4.push bj=o5 at m5 p5⊢
      generalize j3+1=j5 at m5 p5⊢
      obtain⟨ai,hai⟩:=U8 (a:=a) (i:=i4) (Nat.lt_of_succ_lt p5.hi)
      refine wpS_bind (C8 hai (wpS_bind (d9 C (sm4.knd hk) (P.ka _ _ hai) (by rw[Nat.add_sub_cancel' (Nat.le_of_lt p5.hj)];exact Nat.le_refl _) P.kb (fun u v p q huv _ e1 e2=>j4 P.sb (Nat.add_le_add_left huv _) (ar_get.mp e1) (ar_get.mp e2)) (Nat.sub_pos_of_lt p5.hj) fun k' hk1' k1' k2'=>?_)))
      have haz:∀z∈b.toList.drop (j5+k'),le κ ai z:=fun z hz=>by
       obtain⟨t,ht,e⟩:=Hx hz
       rw[Array.length_toList]at ht
       exact Ch (k2' (k'+t) z (Nat.le_add_right _ _) (by lia) (by rw[<-Nat.add_assoc];exact ar_get.mpr e))
      apply Dk (o:=o5) (i:=j5) (fun o j=>LoP κ a b (x+1+x3+1) o i4 j/\∀z∈b.toList.drop j,le κ ai z)
      ·rintro o6 j6 ⟨p6,haz⟩
       refine wpS_bind (C8 hai ?_)
       have m7:=P.pushA p6.m hai haz
       refine J7 (fun e5=>wpS_pure (.inl (MR.mk sm4 (P.lastA m7 e5)))) fun e5=>?_
       have p7:=p6.putA m7 e5
       exact O4 (fun _=>wpS_pure (.inr (LoI3.mk sm4 (p7.mono (by lia))))) fun _=>wpS_pure (LoI3.mk sm4 (p7.mono (by lia)))
      ·intro hF hk0
       have m6:ML κ a.toList b.toList (o5++b.extract j5 (j5+k')).toList i4 (j5+k'):=P.extB m5 fun y hy z hz=>by
        obtain⟨t,ht,e⟩:=Bt hy
        exact le_trans (KeyOrd.kle_of_klt (Hz (k1' t y ht (ar_get.mpr e)))) (Co P.sa (ar_get.mp hai) z hz)
       have hj5:=p5.hj
       exact J7 (fun e4=>wpS_pure (.inl (MR.mk sm4 (P.doneB m6 e4)))) fun e4=>hF _ _ ⟨⟨m6,p5.hi,by lia,Nat.le_trans p5.hn (by lia)⟩,haz⟩
      ·intro hk0
       have z0:k'=0:=Nat.eq_zero_of_not_pos hk0
       subst z0
       exact⟨p5,haz⟩
     ·intro hF hk0
      have hi:=p3.hi
      exact J7 (fun e1=>wpS_pure (.inl (MR.mk sm4 (P.lastA m4 e1)))) fun e1=>J7 (fun e2=>wpS_pure (.inl (MR.mk sm4 (P.doneA m4 e2)))) fun e2=>hF _ _ ⟨⟨m4,by lia,p3.hj,Nat.le_trans p3.hn (by lia)⟩,hbz⟩
     ·intro hk0
      have z0:k=0:=Nat.eq_zero_of_not_pos hk0
      subst z0
      exact⟨p3,hbz⟩
end
section
variable{prog:Program}{w:World}{A:Around}{E:Value->Shared->Prop}{s:Shared}{κ:KeyKind}{kd:SortKind}
noncomputable def Cd:Array Keyed->Array Keyed->StateT SortSt Sem (Array Keyed):=sortPriv% PySem.Builtin.mergeHi
theorem Ia(a b:Array Keyed):Cd a b =(do
  rule "list.sort.merge-hi"
  let tot:=a.size+b.size
  let dn (o:Array Keyed) (i j:Nat):=a.extract 0 i++b.extract 0 j++o.reverse
  let fB (o:Array Keyed) (i j:Nat):=b.extract 0 j++a.extract 0 i++o.reverse
  let mut i:=a.size-1
  let mut j:=b.size
  let mut o:Array Keyed:=#[<-elem' a i]
  if i == 0 then return dn o i j
  if j == 1 then return fB o i j
  let mut mg:=gallopOf (<-get)
  for _ in [0:tot] do
   let mut ac:=0
   let mut bc:=0
   for _ in [0:tot] do
    let some aw <-lt' (<-elem' b (j-1)) (<-elem' a (i-1)) | return dn o i j
    if aw then
     i:=i-1;o:=o.push (<-elem' a i);ac:=ac+1;bc:=0
     if i == 0 then return dn o i j
     if ac ≥ mg then break
    else
     j:=j-1;o:=o.push (<-elem' b j);bc:=bc+1;ac:=0
     if j == 1 then return fB o i j
     if bc ≥ mg then break
   rule "list.sort.gallop"
   mg:=mg+1
   for _ in [0:tot] do
    if mg>1 then mg:=mg-1
    y3 mg
    let some at_ <-P0 false (<-elem' b (j-1)) a 0 i (i-1) | return dn o i j
    let k:=i-at_
    ac:=k
    if k>0 then
     o:=o ++(a.extract at_ i).reverse;i:=at_
     if i == 0 then return dn o i j
    j:=j-1;o:=o.push (<-elem' b j)
    if j == 1 then return fB o i j
    let some at_ <-P0 true (<-elem' a (i-1)) b 0 j (j-1) | return dn o i j
    let k:=j-at_
    bc:=k
    if k>0 then
     o:=o ++(b.extract at_ j).reverse;j:=at_
     if j == 1 then return fB o i j
     if j == 0 then return dn o i j
    i:=i-1;o:=o.push (<-elem' a i)
    if i == 0 then return dn o i j
    if ac<7&&bc<7 then break
   mg:=mg+1
   y3 mg
  unsupported "internal:list.sort.merge-bound"):=rfl
noncomputable abbrev MHa(κ:KeyKind)(a b o:Array Keyed)(i j:Nat):Prop:=MH κ a.toList b.toList o.toList.reverse i j
section
variable{a b o:Array Keyed}{i j k:Nat}{p q:Keyed}
theorem td1{l:List Keyed}{i:Nat}{p:Keyed}(hi:1<=i)(h:l[i-1]?=some p):(l.take i).drop (i-1) = [p]:=by
 rw[List.drop_take,show i-(i-1)=1 by lia]
 exact Oj h
theorem Hw(a:Array Keyed)(k i:Nat):(a.extract k i).toList =(a.toList.take i).drop k:=by
 rw[Array.toList_extract,List.extract_eq_take_drop,List.drop_take]
theorem Dh{l:List Keyed}(h:Sor κ l){i:Nat}{p:Keyed}(hp:l[i-1]?=some p):∀z∈l.take i,le κ z p:=fun z hz=>by
 obtain⟨t,h1,_,e⟩:=Jz hz
 exact j4 h (by lia) e hp
theorem Pre.hpA(P:Pre κ a b)(m:MHa κ a b o i j)(hi:1<=i)(hp:a[i-1]?=some p)(h:∀z∈b.toList.take j,le κ z p):MHa κ a b (o.push p) (i-1) j:=by
 have h1:=m.addA P.sa (i-1) (by lia) (by rw[td1 hi (ar_get.mp hp)];intro y hy;rw[List.mem_singleton.mp hy];exact h)
 rw[td1 hi (ar_get.mp hp)]at h1
 unfold MHa
 rw[Array.toList_push,List.reverse_append]
 exact h1
theorem Pre.hpB(P:Pre κ a b)(m:MHa κ a b o i j)(hj:1<=j)(hq:b[j-1]?=some q)(h:∀z∈a.toList.take i,le κ z q):MHa κ a b (o.push q) i (j-1):=by
 have h1:=m.addB P.sb (j-1) (by lia) (by rw[td1 hj (ar_get.mp hq)];intro y hy;rw[List.mem_singleton.mp hy];exact h)
 rw[td1 hj (ar_get.mp hq)]at h1
 unfold MHa
 rw[Array.toList_push,List.reverse_append]
 exact h1
theorem Pre.heA(P:Pre κ a b)(m:MHa κ a b o i j)(hk:k<=i)(h:∀y∈(a.toList.take i).drop k,∀z∈b.toList.take j,le κ z y):MHa κ a b (o ++(a.extract k i).reverse) k j:=by
 unfold MHa
 rw[Array.toList_append,Array.toList_reverse,List.reverse_append,List.reverse_reverse,Hw]
 exact m.addA P.sa k hk h
theorem Pre.heB(P:Pre κ a b)(m:MHa κ a b o i j)(hk:k<=j)(h:∀y∈(b.toList.take j).drop k,∀z∈a.toList.take i,le κ z y):MHa κ a b (o ++(b.extract k j).reverse) i k:=by
 unfold MHa
 rw[Array.toList_append,Array.toList_reverse,List.reverse_append,List.reverse_reverse,Hw]
 exact m.addB P.sb k hk h
theorem Pre.hdA(P:Pre κ a b)(m:MHa κ a b o i j)(hi:i=0):Rm κ a b (a.extract 0 i++b.extract 0 j++o.reverse):=by
 unfold Rm
 rw[Array.toList_append,Array.toList_append,Array.toList_reverse,f9,f9]
 refine m.endA P.sa P.sb fun y hy z _=>?_
 rw[hi,List.take_zero]at hy
 exact absurd hy (by simp)
theorem Pre.hdB(P:Pre κ a b)(m:MHa κ a b o i j)(hj:j=0):Rm κ a b (a.extract 0 i++b.extract 0 j++o.reverse):=by
 unfold Rm
 rw[Array.toList_append,Array.toList_append,Array.toList_reverse,f9,f9]
 refine m.endA P.sa P.sb fun y _ z hz=>?_
 rw[hj,List.take_zero]at hz
 exact absurd hz (by simp)
theorem Pre.hfB(P:Pre κ a b)(m:MHa κ a b o i j)(hj:j=1):Rm κ a b (b.extract 0 j++a.extract 0 i++o.reverse):=by
 unfold Rm
 rw[Array.toList_append,Array.toList_append,Array.toList_reverse,f9,f9]
 refine m.endB P.sa P.sb fun y hy z hz=>?_
 obtain⟨t,h1,_,e⟩:=Jz hy
 have e0:t=0:=by lia
 rw[e0]at e
 exact P.first y (ar_get.mpr e) z (List.mem_of_mem_take hz)
end
structure HiP(κ:KeyKind)(a b:Array Keyed)(n:Nat)(o:Array Keyed)(i j:Nat):Prop where
 m:MHa κ a b o i j
 hi:1<=i
 hj:2<=j
 ia:i<=a.size
 jb:j<=b.size
 hn:n+i+j<=a.size+b.size
theorem HiP.putA{a b o o':Array Keyed}{n i j:Nat}(h:HiP κ a b n o i j)(m:MHa κ a b o' (i-1) j)(e:i-1≠0):HiP κ a b (n+1) o' (i-1) j:=by
 obtain⟨_,h1,h2,h3,h4,h5⟩:=h
 exact⟨m,by lia,h2,by lia,h4,by lia⟩
theorem HiP.putB{a b o o':Array Keyed}{n i j:Nat}(h:HiP κ a b n o i j)(m:MHa κ a b o' i (j-1))(e:j-1≠1):HiP κ a b (n+1) o' i (j-1):=by
 obtain⟨_,h1,h2,h3,h4,h5⟩:=h
 exact⟨m,h1,by lia,h3,by lia,by lia⟩
theorem HiP.mono{a b o:Array Keyed}{n n' i j:Nat}(h:HiP κ a b n o i j)(l:n'<=n):HiP κ a b n' o i j:=⟨h.m,h.hi,h.hj,h.ia,h.jb,Nat.le_trans (Nat.add_le_add_right (Nat.add_le_add_right l _) _) h.hn⟩
theorem HiP.la{a b o:Array Keyed}{n i j:Nat}(h:HiP κ a b n o i j):i-1<a.size:=Nat.lt_of_lt_of_le (Nat.sub_lt h.hi (Nat.zero_lt_one)) h.ia
theorem HiP.lb{a b o:Array Keyed}{n i j:Nat}(h:HiP κ a b n o i j):j-1<b.size:=Nat.lt_of_lt_of_le (Nat.sub_lt (Nat.lt_of_succ_lt h.hj) (Nat.zero_lt_one)) h.jb
theorem HiP.hj1{a b o:Array Keyed}{n i j:Nat}(h:HiP κ a b n o i j):1<=j:=Nat.le_of_succ_le h.hj
noncomputable def zBx(κ:KeyKind)(a b:Array Keyed)(st:SortSt)(n:Nat)(c:Option (Array Keyed)×Nat×Nat×Array Keyed×Nat)(st':SortSt):Prop:=Sm st st'/\∃i j o mg,c =(none,i,j,o,mg)/\HiP κ a b n o i j
noncomputable def HiI2(κ:KeyKind)(a b:Array Keyed)(st:SortSt)(n:Nat)(c:Option (Array Keyed)×Nat×Nat×Array Keyed×Nat×Nat)(st':SortSt):Prop:=Sm st st'/\∃i j o ac bc,c =(none,i,j,o,ac,bc)/\HiP κ a b n o i j
noncomputable def HiI3(κ:KeyKind)(a b:Array Keyed)(st:SortSt)(n:Nat)(c:Option (Array Keyed)×Nat×Nat×Array Keyed×Nat×Nat×Nat)(st':SortSt):Prop:=Sm st st'/\∃i j o mg ac bc,c =(none,i,j,o,mg,ac,bc)/\HiP κ a b n o i j
theorem HiI2.mk{a b o:Array Keyed}{st st':SortSt}{n i j ac bc:Nat}(sm:Sm st st')(h:HiP κ a b n o i j):HiI2 κ a b st n (none,i,j,o,ac,bc) st':=⟨sm,_,_,_,_,_,rfl,h⟩
theorem HiI3.mk{a b o:Array Keyed}{st st':SortSt}{n i j mg ac bc:Nat}(sm:Sm st st')(h:HiP κ a b n o i j):HiI3 κ a b st n (none,i,j,o,mg,ac,bc) st':=⟨sm,_,_,_,_,_,_,rfl,h⟩
theorem Hd(C:Cmp prog w A s κ kd){st:SortSt}{a b:Array Keyed}{Q:Array Keyed->SortSt->Prop}(hk:kindOf st=kd)(P:Pre κ a b)
  (h:∀r st',Sm st st'->Rm κ a b r->Q r st'):wpS (model prog w) A E s (Cd a b) Q st:=by
 rw[Ia]
 have hna:=P.na
 have hnb:=P.nb
 obtain⟨b0,hb0⟩:=U8 (a:=a) (i:=a.size-1) (Nat.sub_lt hna Nat.zero_lt_one)
 have m0:MHa κ a b (#[]:Array Keyed) a.size b.size:=⟨by simp,List.Pairwise.nil,fun x hx=>absurd hx (by simp),fun x hx=>absurd hx (by simp)⟩
 have m1:MHa κ a b (#[b0]:Array Keyed) (a.size-1) b.size:=by
  have:=P.hpA m0 hna hb0 (fun z hz=>P.last b0 hb0 z (List.mem_of_mem_take hz))
  simpa using this
 apply Nm (x0:=b0) (fun R z=>wpS_lift (wpAny_rule ⟨rfl,z⟩)) (fun R z=>C8 hb0 z)
 case h1=>exact fun ha1=>wpS_pure (h _ _ (Sm.refl _) (P.hdA m1 (eq_of_beq ha1)))
 case h2=>exact fun _ hb1=>wpS_pure (h _ _ (Sm.refl _) (P.hfB m1 (eq_of_beq hb1)))
 intro ha1 hb1
 have ha1:¬a.size-1=0:=fun z=>ha1 (beq_iff_eq.mpr z)
 have hb1:¬b.size=1:=fun z=>hb1 (beq_iff_eq.mpr z)
 have p1:HiP κ a b 1 #[b0] (a.size-1) b.size:=⟨m1,by lia,by lia,by lia,by lia,by lia⟩
 refine wpS_mono (wpS_forRange (I:=fun x=>zBx κ a b st (x+1)) (Q:=MR κ a b st) ?st ?en ⟨Sm.refl _,_,_,_,_,rfl,p1⟩) ?po
 case po =>
  rintro⟨c1,c2⟩ st' ⟨sm,r,e,hr⟩
  cases e
  exact wpS_pure (h r st' sm hr)
 case en =>
  rintro c st' ⟨sm,i,j,o,mg,rfl,p⟩
  obtain⟨_,h1,h2,_,_,h3⟩:=p
  exfalso
  lia
 case st =>
  rintro x c st' _ hx ⟨sm,i,j,o,mg,rfl,p⟩
  refine wpS_bind (wpS_mono (wpS_forRange (I:=fun _=>HiI2 κ a b st (x+1)) (Q:=fun c st'=>MR κ a b st c st'\/HiI2 κ a b st (x+1) c st') ?st1 ?en1 (HiI2.mk sm p)) ?po1)
  case en1=>exact fun c st2 z=>.inr z
  case st1 =>
   rintro x2 c st2 _ _ ⟨sm2,i',j',o,ac,bc,rfl,p2⟩
   obtain⟨bj,hbj⟩:=U8 (a:=b) (i:=j' - 1) p2.lb
   obtain⟨ai,hai⟩:=U8 (a:=a) (i:=i' - 1) p2.la
   refine wpS_bind (C8 hbj (wpS_bind (C8 hai (wpS_bind (Gb C (sm2.knd hk) (P.kb _ _ hbj) (P.ka _ _ hai) ?_)))))
   refine O4 (fun hlt=>wpS_bind (C8 hai ?_)) fun hlt=>wpS_bind (C8 hbj ?_)
   ·have m3:=P.hpA p2.m p2.hi hai fun z hz=>le_trans (Dh P.sb (ar_get.mp hbj) z hz) (KeyOrd.kle_of_klt hlt)
    refine J7 (fun e1=>wpS_pure (.inl (MR.mk sm2 (P.hdA m3 e1)))) fun e1=>?_
    have p3:=(p2.putA m3 e1).mono (Nat.le_succ _)
    exact O4 (fun _=>wpS_pure (.inr (HiI2.mk sm2 p3))) fun _=>wpS_pure (HiI2.mk sm2 p3)
   ·have m3:=P.hpB p2.m p2.hj1 hbj fun z hz=>le_trans (Dh P.sa (ar_get.mp hai) z hz) (show le κ ai bj from Bool.eq_false_iff.mpr hlt)
    refine J7 (fun e1=>wpS_pure (.inl (MR.mk sm2 (P.hfB m3 e1)))) fun e1=>?_
    have p3:=(p2.putB m3 e1).mono (Nat.le_succ _)
    exact O4 (fun _=>wpS_pure (.inr (HiI2.mk sm2 p3))) fun _=>wpS_pure (HiI2.mk sm2 p3)
  case po1 =>
   rintro⟨c1,c2⟩ st2 (⟨sm2,r,e,hr⟩ | ⟨sm2,i2,j2,o2,ac,bc,e,p2⟩)
   ·cases e
    exact wpS_pure (MR.mk sm2 hr)
   ·cases e
    refine wpS_bind (wpS_lift (wpAny_rule ⟨rfl,?_⟩))
    refine wpS_bind (wpS_mono (wpS_forRange (I:=fun x3=>HiI3 κ a b st (x+1+x3)) (Q:=fun c st'=>MR κ a b st c st'\/HiI3 κ a b st (x+1+1) c st') ?st2 ?en2 (HiI3.mk sm2 p2)) ?po2)
    case en2 =>
     rintro c st3 ⟨sm3,i',j',o',mg',ac,bc,rfl,p3⟩
     exact .inr (HiI3.mk sm3 (p3.mono (by lia)))
    case po2 =>
     rintro⟨c1,c2⟩ st3 (⟨sm3,r,e,hr⟩ | ⟨sm3,i',j',o',mg',ac,bc,e,p3⟩)
     ·cases e
      exact wpS_pure (MR.mk sm3 hr)
     ·cases e
      refine wpS_bind (S4 sm3 fun st4 sm4=>?_)
      exact wpS_pure ⟨sm4,_,_,_,_,rfl,p3⟩
    case st2 =>
     rintro x3 c st3 _ _ ⟨sm3,i3,j3,o3,mg3,ac3,bc3,rfl,p3⟩
     obtain⟨bj,hbj⟩:=U8 (a:=b) (i:=j3-1) p3.lb
     apply Lv (mg3-1) (y:=mg3)
     case e=>exact rfl
     intro g
     refine wpS_bind (S4 sm3 fun st4 sm4=>?_)
     refine wpS_bind (C8 hbj (wpS_bind (d9 C (sm4.knd hk) (P.kb _ _ hbj) (by rw[Nat.zero_add];exact p3.ia) P.ka (fun u v p q huv _ e1 e2=>j4 P.sa (Nat.add_le_add_left huv _) (ar_get.mp e1) (ar_get.mp e2)) (Nat.sub_lt p3.hi Nat.zero_lt_one) fun k hk1 k1 k2=>?_)))
     dsimp only
     have m4:MHa κ a b (o3 ++(a.extract k i3).reverse) k j3:=P.heA p3.m hk1 fun y hy z hz=>by
      obtain⟨t,ht1,ht2,e⟩:=Rk hy
      exact le_trans (Dh P.sb (ar_get.mp hbj) z hz) (KeyOrd.kle_of_klt (Al (k2 t y ht1 ht2 (by rw[Nat.zero_add];exact ar_get.mpr e))))
     have hbz:∀z∈a.toList.take k,le κ z bj:=fun z hz=>by
      obtain⟨t,ht,_,e⟩:=Jz hz
      exact Cy (k1 t z ht (by rw[Nat.zero_add];exact ar_get.mpr e))
     generalize hd:i3-k=d
     apply Dk (o:=o3) (i:=i3) (fun o i=>HiP κ a b (x+1+x3) o i j3/\∀z∈a.toList.take i,le κ z bj)
     ·rintro o4 i4 ⟨p4,hbz⟩
      refine wpS_bind (C8 hbj ?_)
      have m5:=P.hpB p4.m p4.hj1 hbj hbz
      refine J7 (fun e3=>wpS_pure (.inl (MR.mk sm4 (P.hfB m5 e3)))) fun e3=>?_
      have p5:=p4.putB m5 e3
      generalize o4.push bj=o5 at m5 p5⊢
      generalize j3-1=j5 at m5 p5⊢
      obtain⟨ai,hai⟩:=U8 (a:=a) (i:=i4-1) p5.la
      refine wpS_bind (C8 hai (wpS_bind (d9 C (sm4.knd hk) (P.ka _ _ hai) (by rw[Nat.zero_add];exact p5.jb) P.kb (fun u v p q huv _ e1 e2=>j4 P.sb (Nat.add_le_add_left huv _) (ar_get.mp e1) (ar_get.mp e2)) (Nat.sub_lt p5.hj1 Nat.zero_lt_one) fun k' hk1' k1' k2'=>?_)))
      dsimp only
      have haz:∀z∈b.toList.take k',le κ z ai:=fun z hz=>by
       obtain⟨t,ht,_,e⟩:=Jz hz
       exact KeyOrd.kle_of_klt (Hz (k1' t z ht (by rw[Nat.zero_add];exact ar_get.mpr e)))
      generalize hd':j5-k'=d'
      apply Dk (o:=o5) (i:=j5) (fun o j=>HiP κ a b (x+1+x3+1) o i4 j/\∀z∈b.toList.take j,le κ z ai)
      ·rintro o6 j6 ⟨p6,haz⟩
       refine wpS_bind (C8 hai ?_)
       have m7:=P.hpA p6.m p6.hi hai haz
       refine J7 (fun e5=>wpS_pure (.inl (MR.mk sm4 (P.hdA m7 e5)))) fun e5=>?_
       have p7:=p6.putA m7 e5
       exact O4 (fun _=>wpS_pure (.inr (HiI3.mk sm4 (p7.mono (by lia))))) fun _=>wpS_pure (HiI3.mk sm4 (p7.mono (by lia)))
      ·intro hF hk0
       have m6:MHa κ a b (o5 ++(b.extract k' j5).reverse) i4 k':=P.heB m5 hk1' fun y hy z hz=>by
        obtain⟨t,ht1,ht2,e⟩:=Rk hy
        exact le_trans (Dh P.sa (ar_get.mp hai) z hz) (Ch (k2' t y ht1 ht2 (by rw[Nat.zero_add];exact ar_get.mpr e)))
       obtain⟨_,h1,h2,h3,h4,h5⟩:=p5
       exact J7 (fun e4=>wpS_pure (.inl (MR.mk sm4 (P.hfB m6 e4)))) fun e4=>J7 (fun e5=>wpS_pure (.inl (MR.mk sm4 (P.hdB m6 e5)))) fun e5=>hF _ _ ⟨⟨m6,h1,by lia,h3,Nat.le_trans hk1' h4,by lia⟩,haz⟩
      ·intro hk0
       have z0:k'=j5:=Nat.le_antisymm hk1' (Nat.le_of_sub_eq_zero (hd'.trans (Nat.eq_zero_of_not_pos hk0)))
       subst z0
       exact⟨p5,haz⟩
     ·intro hF hk0
      obtain⟨_,h1,h2,h3,h4,h5⟩:=p3
      exact J7 (fun e1=>wpS_pure (.inl (MR.mk sm4 (P.hdA m4 e1)))) fun e1=>hF _ _ ⟨⟨m4,by lia,h2,Nat.le_trans hk1 h3,h4,by lia⟩,hbz⟩
     ·intro hk0
      have z0:k=i3:=Nat.le_antisymm hk1 (Nat.le_of_sub_eq_zero (hd.trans (Nat.eq_zero_of_not_pos hk0)))
      subst z0
      exact⟨p3,hbz⟩
end
section
variable{prog:Program}{w:World}{A:Around}{E:Value->Shared->Prop}{s:Shared}{κ:KeyKind}{kd:SortKind}
noncomputable def seg(l:List Keyed)(lo n:Nat):List Keyed:=(l.drop lo).take n
theorem Lw(m:List Keyed)(lo:Nat):∀(n:Nat) (a:Array Keyed),lo+n+m.length<=a.size ->
  ((m.zipIdx n).foldl (fun a (x:Keyed×Nat)=>a.setIfInBounds (lo+x.2) x.1) a).size=a.size /\
  ∀t:Nat,((m.zipIdx n).foldl (fun a (x:Keyed×Nat)=>a.setIfInBounds (lo+x.2) x.1) a)[t]?=if lo+n<=t/\t<lo+n+m.length then m[t-(lo+n)]? else a[t]?:=by
 induction m with
 | nil =>
  intro n a h
  refine⟨rfl,fun t=>?_⟩
  rw[if_neg (by simp only[List.length_nil];omega)]
  rfl
 | cons p m ih =>
  intro n a h
  rw[List.length_cons]at h
  rw[List.zipIdx_cons,List.foldl_cons]
  obtain⟨i1,i2⟩:=ih (n+1) (a.setIfInBounds (lo+n) p) (by rw[Array.size_setIfInBounds];omega)
  refine⟨i1.trans Array.size_setIfInBounds,fun t=>?_⟩
  rw[i2 t,List.length_cons]
  by_cases h1:lo+n=t
  ·subst h1
   rw[if_neg (by omega),if_pos (by omega),Array.getElem?_setIfInBounds_self_of_lt (by omega),Nat.sub_self]
   rfl
  ·by_cases h2:lo +(n+1)<=t/\t<lo +(n+1)+m.length
   ·rw[if_pos h2,if_pos (by omega),show t-(lo+n) =(t-(lo +(n+1)))+1 by omega,List.getElem?_cons_succ]
   ·rw[if_neg h2,if_neg (by omega),Array.getElem?_setIfInBounds_ne h1]
theorem Ax(m:List Keyed)(lo:Nat)(a:Array Keyed)(h:lo+m.length<=a.size) :
  (m.zipIdx.foldl (fun a (x:Keyed×Nat)=>a.setIfInBounds (lo+x.2) x.1) a).toList=a.toList.take lo++m++a.toList.drop (lo+m.length):=by
 obtain⟨h1,h2⟩:=Lw m lo 0 a (by omega)
 refine List.ext_getElem? fun t=>?_
 rw[Array.getElem?_toList,h2 t]
 have hl:(a.toList.take lo).length=lo:=by rw[List.length_take,Array.length_toList];omega
 by_cases c1:t<lo
 ·rw[if_neg (by omega),List.append_assoc,List.getElem?_append_left (by omega),List.getElem?_take_of_lt c1,Array.getElem?_toList]
 ·by_cases c2:t<lo+m.length
  ·rw[if_pos (by omega),List.getElem?_append_left (by rw[List.length_append];omega),List.getElem?_append_right (by omega),hl]
   rfl
  ·rw[if_neg (by omega),List.getElem?_append_right (by rw[List.length_append];omega),List.length_append,hl,List.getElem?_drop,Array.getElem?_toList]
   congr 1
   omega
theorem Ml(l:List Keyed)(lo n:Nat):l=l.take lo++seg l lo n++l.drop (lo+n):=by
 unfold seg
 rw[List.append_assoc,<-List.drop_drop,List.take_append_drop,List.take_append_drop]
theorem Hg(l:List Keyed)(lo n m:Nat):seg l lo (n+m)=seg l lo n++seg l (lo+n) m:=by
 unfold seg
 rw[List.take_add,List.drop_drop]
structure Part(κ:KeyKind)(l l':List Keyed)(lo n:Nat):Prop where
 perm:l'.Perm l
 front:l'.take lo=l.take lo
 back:l'.drop (lo+n)=l.drop (lo+n)
theorem Part.refl(l:List Keyed)(lo n:Nat):Part κ l l lo n:=⟨List.Perm.refl _,rfl,rfl⟩
theorem Part.seg_front{l l':List Keyed}{lo n:Nat}(h:Part κ l l' lo n){u m:Nat}(hu:u+m<=lo):seg l' u m=seg l u m:=by
 have:∀x:List Keyed,seg x u m =((x.take lo).drop u).take m:=fun x=>by
  unfold seg
  rw[List.drop_take,List.take_take,Nat.min_eq_left (by omega)]
 rw[this,this,h.front]
theorem Part.seg_back{l l':List Keyed}{lo n:Nat}(h:Part κ l l' lo n){u m:Nat}(hu:lo+n<=u):seg l' u m=seg l u m:=by
 have:∀x:List Keyed,seg x u m =((x.drop (lo+n)).drop (u-(lo+n))).take m:=fun x=>by
  unfold seg
  rw[List.drop_drop,show lo+n +(u-(lo+n))=u by omega]
 rw[this,this,h.back]
theorem Part.of{l z:List Keyed}{lo n:Nat}(hz:z.Perm (seg l lo n))(hl:lo+n<=l.length):Part κ l (l.take lo++z++l.drop (lo+n)) lo n/\seg (l.take lo++z++l.drop (lo+n)) lo n=z:=by
 have h1:(l.take lo).length=lo:=by rw[List.length_take];omega
 have h2:z.length=n:=by
  rw[hz.length_eq]
  unfold seg
  rw[List.length_take,List.length_drop]
  omega
 refine⟨⟨?_,?_,?_⟩,?_⟩
 ·conv=>rhs;rw[Ml l lo n]
  exact List.Perm.append_right _ (List.Perm.append_left _ hz)
 ·rw[List.append_assoc,List.take_append_of_le_length (by omega),List.take_of_length_le (by omega)]
 ·rw[List.drop_append,List.drop_eq_nil_of_le (by rw[List.length_append];omega),List.nil_append,List.length_append,h1,h2,Nat.sub_self,List.drop_zero]
 ·unfold seg
  rw[List.append_assoc,List.drop_append,List.drop_eq_nil_of_le (by omega),List.nil_append,h1,Nat.sub_self,List.drop_zero,List.take_append_of_le_length (by omega),List.take_of_length_le (by omega)]
structure St(κ:KeyKind)(kd:SortKind)(a₀:Array Keyed)(st:SortSt):Prop where
 perm:(arrOf st).toList.Perm a₀.toList
 kind:kindOf st=kd
 failed:failedOf st=none
theorem St.size{a₀:Array Keyed}{st:SortSt}(h:St κ kd a₀ st):(arrOf st).size=a₀.size:=by
 have:=h.perm.length_eq
 simpa using this
theorem St.has{a₀:Array Keyed}{st:SortSt}(h:St κ kd a₀ st)(h0:KeysOf κ a₀)(i:Nat)(p:Keyed)(e:(arrOf st)[i]?=some p):Has κ p :=
 h0 p (h.perm.mem_iff.mp (List.mem_of_getElem? (ar_get.mp e)))
theorem K5{l:List Keyed}{lo n t:Nat}(ht:t<n):(seg l lo n)[t]?=l[lo+t]?:=by
 unfold seg
 rw[List.getElem?_take_of_lt ht,List.getElem?_drop]
theorem Gv(i:Nat):mergeAt' i =(do
  let u <-get
  let(some (sa,na,pw),some (sb,nb,_)):=((pendingOf u)[i]?,(pendingOf u)[i+1]?) | unsupported "internal:list.sort.pending"
  set (setPending u (((pendingOf u).setIfInBounds i (sa,na+nb,pw)).eraseIdxIfInBounds (i+1)))
  let some k <-P0 false (<-elem' (arrOf u) sb) (arrOf u) sa na 0 | return false
  let(sa,na):=(sa+k,na-k)
  if na == 0 then return true
  let some nb <-P0 true (<-elem' (arrOf u) (sa+na-1)) (arrOf u) sb nb (nb-1) | return false
  if nb == 0 then return true
  let x:=(arrOf u).extract sa sb
  let y:=(arrOf u).extract sb (sb+nb)
  let mm <-if na<=nb then Cv x y else Cd x y
  modify fun v=>setArr v (mm.toList.zipIdx.foldl (fun a (z:Keyed×Nat)=>a.setIfInBounds (sa+z.2) z.1) (arrOf v))
  return(failedOf (<-get)).isNone):=rfl
theorem Ts{st st2:SortSt}{Q:PUnit->SortSt->Prop}(h:Q ⟨⟩ st2):wpS (model prog w) A E s (set st2:StateT SortSt Sem PUnit) Q st:=by
 unfold wpS;rw[StateT.run_set];exact wpAny_pure ⟨rfl,h⟩
theorem Hy(C:Cmp prog w A s κ kd){a₀:Array Keyed}(h0:KeysOf κ a₀){st:SortSt}{i sa na pw sb nb pw2:Nat}{Q:Bool->SortSt->Prop}(hS:St κ kd a₀ st)
  (hi:(pendingOf st)[i]?=some (sa,na,pw)) (hj:(pendingOf st)[i+1]?=some (sb,nb,pw2)) (hsb:sb=sa+na) (hsz:sb+nb<=a₀.size) (hna:1<=na) (hnb:1<=nb)
  (sx:Sor κ (seg (arrOf st).toList sa na)) (sy:Sor κ (seg (arrOf st).toList sb nb))
  (h:∀st',St κ kd a₀ st'->Part κ (arrOf st).toList (arrOf st').toList sa (na+nb)->Sor κ (seg (arrOf st').toList sa (na+nb)) ->
   pendingOf st' =((pendingOf st).setIfInBounds i (sa,na+nb,pw)).eraseIdxIfInBounds (i+1)->Q true st'):wpS (model prog w) A E s (mergeAt' i) Q st:=by
 subst hsb
 have hL:(arrOf st).toList.length=a₀.size:=by rw[Array.length_toList];exact hS.size
 have hsz':=hS.size
 rw[Gv]
 refine wpS_bind (wpS_get ?_)
 rw[hi,hj]
 dsimp only
 refine wpS_bind (Ts ?_)
 obtain⟨b0,hb0⟩:=U8 (a:=arrOf st) (i:=sa+na) (by omega)
 have sxl:∀u v p q,u<=v->v<na->(arrOf st)[sa+u]?=some p->(arrOf st)[sa+v]?=some q->le κ p q:=fun u v p q huv hv e1 e2 =>
  j4 sx huv (by rw[K5 (by omega)];exact ar_get.mp e1) (by rw[K5 hv];exact ar_get.mp e2)
 have syl:∀u v p q,u<=v->v<nb->(arrOf st)[sa+na+u]?=some p->(arrOf st)[sa+na+v]?=some q->le κ p q:=fun u v p q huv hv e1 e2 =>
  j4 sy huv (by rw[K5 (by omega)];exact ar_get.mp e1) (by rw[K5 hv];exact ar_get.mp e2)
 refine wpS_bind (C8 hb0 (wpS_bind (d9 C hS.kind (hS.has h0 _ _ hb0) (by omega) (hS.has h0) sxl (by omega) fun k hk1 k1 k2=>?_)))
 dsimp only
 have b0y:∀z∈seg (arrOf st).toList (sa+na) nb,le κ b0 z:=fun z hz=>by
  obtain⟨t,ht,e⟩:=Bt hz
  exact syl 0 t b0 z (by omega) ht hb0 (ar_get.mpr e)
 have xk:∀x∈(seg (arrOf st).toList sa na).take k,le κ x b0:=fun x hx=>by
  obtain⟨t,ht,ht2,e⟩:=Jz hx
  unfold seg at ht2
  rw[List.length_take]at ht2
  rw[K5 (by omega)]at e
  exact Cy (k1 t x ht (ar_get.mpr e))
 have kx:∀x∈(seg (arrOf st).toList sa na).drop k,le κ b0 x:=fun x hx=>by
  obtain⟨t,ht,e⟩:=Hx hx
  unfold seg at ht
  rw[List.length_take]at ht
  rw[K5 (by omega)]at e
  exact KeyOrd.kle_of_klt (Al (k2 (k+t) x (by omega) (by omega) (ar_get.mpr e)))
 have S1:St κ kd a₀ (setPending st (((pendingOf st).setIfInBounds i (sa,na+nb,pw)).eraseIdxIfInBounds (i+1))):=⟨hS.perm,hS.kind,hS.failed⟩
 by_cases hk0:na-k=0
 ·rw[if_pos (by simpa using hk0)]
  have hkk:k=na:=by omega
  refine wpS_pure (h _ S1 (Part.refl _ _ _) ?_ rfl)
  show Sor κ (seg (arrOf st).toList sa (na+nb))
  rw[Hg]
  refine List.pairwise_append.mpr ⟨sx,sy,fun x hx y hy=>le_trans (xk x ?_) (b0y y hy)⟩
  rw[List.take_of_length_le (by unfold seg;rw[List.length_take];omega)]
  exact hx
 rw[if_neg (by simpa using hk0)]
 obtain⟨al,hal⟩:=U8 (a:=arrOf st) (i:=sa+k +(na-k)-1) (by omega)
 refine wpS_bind (C8 hal (wpS_bind (d9 C S1.kind (hS.has h0 _ _ hal) (by omega) (hS.has h0) syl (by omega) fun k' hk1' k1' k2'=>?_)))
 dsimp only
 have hal':(arrOf st)[sa +(na-1)]?=some al:=by rw[show sa +(na-1)=sa+k +(na-k)-1 by omega];exact hal
 have xal:∀x∈seg (arrOf st).toList sa na,le κ x al:=fun x hx=>by
  obtain⟨t,ht,e⟩:=Bt hx
  exact sxl t (na-1) x al (by omega) (by omega) (ar_get.mpr e) hal'
 have yk:∀y∈(seg (arrOf st).toList (sa+na) nb).take k',le κ y al:=fun y hy=>by
  obtain⟨t,ht,ht2,e⟩:=Jz hy
  unfold seg at ht2
  rw[List.length_take]at ht2
  rw[K5 (by omega)]at e
  exact KeyOrd.kle_of_klt (Hz (k1' t y ht (ar_get.mpr e)))
 have ky:∀y∈(seg (arrOf st).toList (sa+na) nb).drop k',le κ al y:=fun y hy=>by
  obtain⟨t,ht,e⟩:=Hx hy
  unfold seg at ht
  rw[List.length_take]at ht
  rw[K5 (by omega)]at e
  exact Ch (k2' (k'+t) y (by omega) (by omega) (ar_get.mpr e))
 by_cases hk0':k'=0
 ·rw[if_pos (by simpa using hk0')]
  refine wpS_pure (h _ S1 (Part.refl _ _ _) ?_ rfl)
  show Sor κ (seg (arrOf st).toList sa (na+nb))
  rw[Hg]
  refine List.pairwise_append.mpr ⟨sx,sy,fun x hx y hy=>le_trans (xal x hx) (ky y ?_)⟩
  rw[hk0',List.drop_zero]
  exact hy
 rw[if_neg (by simpa using hk0')]
 have ex:((arrOf st).extract (sa+k) (sa+na)).toList =(seg (arrOf st).toList sa na).drop k:=by
  rw[Hw]
  unfold seg
  rw[List.drop_take,List.drop_take,List.drop_drop]
  congr 1
  omega
 have ey:((arrOf st).extract (sa+na) (sa+na+k')).toList =(seg (arrOf st).toList (sa+na) nb).take k':=by
  rw[Cl]
  unfold seg
  rw[List.take_take,Nat.min_eq_left hk1']
 have P:Pre κ ((arrOf st).extract (sa+k) (sa+na)) ((arrOf st).extract (sa+na) (sa+na+k')):=by
  refine⟨by rw[ex];exact sx.sublist (List.drop_sublist _ _),by rw[ey];exact sy.sublist (List.take_sublist _ _),fun t p e=>?_,fun t p e=>?_,?_,?_,fun q e z hz=>?_,fun p e z hz=>?_⟩
  ·have m:=List.mem_of_getElem? (ar_get.mp e)
   rw[ex]at m
   obtain⟨u,_,e2⟩:=Bt (List.mem_of_mem_drop m)
   exact hS.has h0 _ p (ar_get.mpr e2)
  ·have m:=List.mem_of_getElem? (ar_get.mp e)
   rw[ey]at m
   obtain⟨u,_,e2⟩:=Bt (List.mem_of_mem_take m)
   exact hS.has h0 _ p (ar_get.mpr e2)
  ·rw[Array.size_extract];omega
  ·rw[Array.size_extract];omega
  ·have m:=ar_get.mp e
   rw[ey,List.getElem?_take_of_lt (by omega),K5 (by omega)]at m
   have:q=b0:=by
    have:=ar_get.mp hb0
    rw[Nat.add_zero,this]at m
    exact(Option.some.inj m).symm
   subst this
   rw[ex]at hz
   exact kx z hz
  ·have m:=ar_get.mp e
   rw[ex,Array.size_extract,List.getElem?_drop,K5 (by omega)]at m
   have:p=al:=by
    have q:=ar_get.mp hal'
    rw[show k +(min (sa+na) (arrOf st).size-(sa+k)-1)=na-1 by omega,q]at m
    exact(Option.some.inj m).symm
   subst this
   rw[ey]at hz
   exact yk z hz
 have fin:∀(r:Array Keyed) (st2:SortSt),Sm (setPending st (((pendingOf st).setIfInBounds i (sa,na+nb,pw)).eraseIdxIfInBounds (i+1))) st2->Rm κ ((arrOf st).extract (sa+k) (sa+na)) ((arrOf st).extract (sa+na) (sa+na+k')) r ->
   Q (failedOf (setArr st2 (r.toList.zipIdx.foldl (fun a (z:Keyed×Nat)=>a.setIfInBounds (sa+k+z.2) z.1) (arrOf st2)))).isNone (setArr st2 (r.toList.zipIdx.foldl (fun a (z:Keyed×Nat)=>a.setIfInBounds (sa+k+z.2) z.1) (arrOf st2))):=by
  rintro r st2 ⟨q1,q2,q3,q4⟩ ⟨r1,r2⟩
  rw[ex,ey]at r2
  have hrl:r.toList.length =(na-k)+k':=by
   rw[r2.length_eq,List.length_append]
   unfold seg
   rw[List.length_drop,List.length_take,List.length_take,List.length_drop,List.length_take,List.length_drop]
   omega
  have q2':arrOf st2=arrOf st:=q2
  have ef:failedOf (setArr st2 (r.toList.zipIdx.foldl (fun a (z:Keyed×Nat)=>a.setIfInBounds (sa+k+z.2) z.1) (arrOf st2)))=none:=q4.trans hS.failed
  rw[ef]
  have el:=Ax r.toList (sa+k) (arrOf st2) (by rw[q2'];omega)
  have eq:(r.toList.zipIdx.foldl (fun a (z:Keyed×Nat)=>a.setIfInBounds (sa+k+z.2) z.1) (arrOf st2)).toList =(arrOf st).toList.take sa ++((seg (arrOf st).toList sa na).take k++r.toList ++(seg (arrOf st).toList (sa+na) nb).drop k') ++(arrOf st).toList.drop (sa +(na+nb)):=by
   rw[el,q2',hrl]
   have e1:(arrOf st).toList.take (sa+k) =(arrOf st).toList.take sa ++(seg (arrOf st).toList sa na).take k:=by
    unfold seg
    rw[List.take_add,List.take_take,Nat.min_eq_left hk1]
   have e2:(arrOf st).toList.drop (sa+k +(na-k+k')) =(seg (arrOf st).toList (sa+na) nb).drop k' ++(arrOf st).toList.drop (sa +(na+nb)):=by
    unfold seg
    rw[List.drop_take,List.drop_drop,show sa+k +(na-k+k')=sa+na+k' by omega]
    conv=>lhs;rw[<-List.take_append_drop (nb-k') ((arrOf st).toList.drop (sa+na+k'))]
    rw[List.drop_drop,show sa+na+k' +(nb-k')=sa +(na+nb) by omega]
   rw[e1,e2]
   simp only[List.append_assoc]
  have hp:((seg (arrOf st).toList sa na).take k++r.toList ++(seg (arrOf st).toList (sa+na) nb).drop k').Perm (seg (arrOf st).toList sa (na+nb)):=by
   rw[Hg]
   have a1:((seg (arrOf st).toList sa na).take k++r.toList ++(seg (arrOf st).toList (sa+na) nb).drop k').Perm ((seg (arrOf st).toList sa na).take k ++((seg (arrOf st).toList sa na).drop k ++(seg (arrOf st).toList (sa+na) nb).take k') ++(seg (arrOf st).toList (sa+na) nb).drop k') :=
    List.Perm.append_right _ (List.Perm.append_left _ r2)
   refine a1.trans (List.Perm.of_eq ?_)
   rw[<-List.append_assoc,List.take_append_drop,List.append_assoc,List.take_append_drop]
  obtain⟨pa,ps⟩:=Part.of (κ:=κ) hp (by rw[hL];omega)
  have hs:Sor κ ((seg (arrOf st).toList sa na).take k++r.toList ++(seg (arrOf st).toList (sa+na) nb).drop k'):=by
   refine List.pairwise_append.mpr ⟨List.pairwise_append.mpr ⟨sx.sublist (List.take_sublist _ _),r1,fun x hx y hy=>?_⟩,sy.sublist (List.drop_sublist _ _),fun x hx y hy=>?_⟩
   ·rcases List.mem_append.mp (r2.mem_iff.mp hy)with hy | hy
    ·exact le_trans (xk x hx) (kx y hy)
    ·exact le_trans (xk x hx) (b0y y (List.mem_of_mem_take hy))
   ·rcases List.mem_append.mp hx with hx | hx
    ·exact le_trans (xal x (List.mem_of_mem_take hx)) (ky y hy)
    ·rcases List.mem_append.mp (r2.mem_iff.mp hx)with hx | hx
     ·exact le_trans (xal x (List.mem_of_mem_drop hx)) (ky y hy)
     ·exact le_trans (yk x hx) (ky y hy)
  refine h _ ⟨?_,q1.trans hS.kind,q4.trans hS.failed⟩ ?_ ?_ q3
  ·show(r.toList.zipIdx.foldl (fun a (z:Keyed×Nat)=>a.setIfInBounds (sa+k+z.2) z.1) (arrOf st2)).toList.Perm a₀.toList
   rw[eq]
   exact pa.perm.trans hS.perm
  ·show Part κ (arrOf st).toList (r.toList.zipIdx.foldl (fun a (z:Keyed×Nat)=>a.setIfInBounds (sa+k+z.2) z.1) (arrOf st2)).toList sa (na+nb)
   rw[eq]
   exact pa
  ·show Sor κ (seg (r.toList.zipIdx.foldl (fun a (z:Keyed×Nat)=>a.setIfInBounds (sa+k+z.2) z.1) (arrOf st2)).toList sa (na+nb))
   rw[eq,ps]
   exact hs
 by_cases hab:na-k<=k'
 ·rw[if_pos hab]
  refine wpS_bind (Gs C S1.kind P fun r st2 q r1=>?_)
  exact wpS_bind (wpS_modify (wpS_bind (wpS_get (wpS_pure (fin r st2 q r1)))))
 ·rw[if_neg hab]
  refine wpS_bind (Hd C S1.kind P fun r st2 q r1=>?_)
  exact wpS_bind (wpS_modify (wpS_bind (wpS_get (wpS_pure (fin r st2 q r1)))))
end
section
variable{prog:Program}{w:World}{A:Around}{E:Value->Shared->Prop}{s:Shared}{κ:KeyKind}{kd:SortKind}{a₀:Array Keyed}
theorem Pm{xs:Array Keyed}{i:Nat}{p:Keyed}(h:xs[i]?=some p):KK κ xs i=kk κ p:=by unfold KK kk;rw[h]
noncomputable def SI(κ:KeyKind)(xs:Array Keyed)(lo m:Nat):Prop:=∀i j,i<=j->j<m->κ.kle (KK κ xs (lo+i)) (KK κ xs (lo+j))
noncomputable def NI(κ:KeyKind)(xs:Array Keyed)(lo m:Nat):Prop:=∀i j,i<=j->j<m->κ.kle (KK κ xs (lo+j)) (KK κ xs (lo+i))
theorem SI.sor{xs:Array Keyed}{lo m:Nat}(h:SI κ xs lo m):Sor κ (seg xs.toList lo m):=by
 refine List.pairwise_iff_getElem.mpr fun i j hi hj hij=>?_
 unfold seg at hi hj
 rw[List.length_take]at hi hj
 have e1:xs[lo+i]?=some (seg xs.toList lo m)[i]:=by
  rw[ar_get,<-K5 (n:=m) (by omega)]
  exact List.getElem?_eq_getElem _
 have e2:xs[lo+j]?=some (seg xs.toList lo m)[j]:=by
  rw[ar_get,<-K5 (n:=m) (by omega)]
  exact List.getElem?_eq_getElem _
 have:=h i j (by omega) (by omega)
 rw[Pm e1,Pm e2]at this
 exact this
structure Lo(κ:KeyKind)(kd:SortKind)(a₀:Array Keyed)(st0:SortSt)(lo n:Nat)(st:SortSt):Prop where
 S:St κ kd a₀ st
 pend:pendingOf st=pendingOf st0
 out:∀t,t<lo\/lo+n<=t->(arrOf st)[t]? =(arrOf st0)[t]?
theorem Lo.part{st0 st:SortSt}{lo n:Nat}(h:Lo κ kd a₀ st0 lo n st)(h0:St κ kd a₀ st0):Part κ (arrOf st0).toList (arrOf st).toList lo n:=by
 refine⟨h.S.perm.trans h0.perm.symm,List.ext_getElem? fun t=>?_,List.ext_getElem? fun t=>?_⟩
 ·by_cases ht:t<lo
  ·rw[List.getElem?_take_of_lt ht,List.getElem?_take_of_lt ht,Array.getElem?_toList,Array.getElem?_toList]
   exact h.out t (.inl ht)
  ·rw[List.getElem?_eq_none (by rw[List.length_take];omega),List.getElem?_eq_none (by rw[List.length_take];omega)]
 ·rw[List.getElem?_drop,List.getElem?_drop,Array.getElem?_toList,Array.getElem?_toList]
  exact h.out _ (.inr (by omega))
theorem Lo.mirror{st0 st:SortSt}{lo n i j:Nat}(h:Lo κ kd a₀ st0 lo n st)(hi:lo<=i)(hj:j<=lo+n)(hn:lo+n<=a₀.size):Lo κ kd a₀ st0 lo n (setArr st (mirror (arrOf st) i j ((j-i) / 2))):=by
 refine⟨⟨(Array.perm_iff_toList_perm.mp (mirror_perm _ _ _ _)).trans h.S.perm,h.S.kind,h.S.failed⟩,h.pend,fun t ht=>?_⟩
 show(PyProof.Rows.mirror (arrOf st) i j ((j-i) / 2))[t]?=_
 have:=h.S.size
 rw[getElem?_mirror_all (by omega),if_neg (by omega)]
 exact h.out t ht
theorem M0(C:Cmp prog w A s κ kd)(h0:KeysOf κ a₀){st:SortSt}(hS:St κ kd a₀ st){i j:Nat}{Q:Option Bool->SortSt->Prop}(hi:i<a₀.size)(hj:j<a₀.size)
  (h:Q (some (κ.blt (KK κ (arrOf st) i) (KK κ (arrOf st) j))) st):wpS (model prog w) A E s (ltAt' i j) Q st:=by
 have:=hS.size
 obtain⟨p,hp⟩:=U8 (a:=arrOf st) (i:=i) (by omega)
 obtain⟨q,hq⟩:=U8 (a:=arrOf st) (i:=j) (by omega)
 rw[ltAt'_eq]
 refine wpS_bind (wpS_get ?_)
 refine wpS_bind (C8 hp (wpS_bind (C8 hq (Gb C hS.kind (hS.has h0 _ _ hp) (hS.has h0 _ _ hq) ?_))))
 rw[Pm hp,Pm hq]at h
 exact h
theorem Wu{st:SortSt}{lo a nrem:Nat}{f:Nat->(Option (Option Nat)×Nat)->StateT SortSt Sem (ForInStep (Option (Option Nat)×Nat))}{Q:(Option (Option Nat)×Nat)->SortSt->Prop}
  (hf:∀x n,1<=n->n<nrem->wpS (model prog w) A E s (f x (none,n)) (fun r st'=>st'=st/\r=if κ.blt (KK κ (arrOf st) (lo+n)) (KK κ (arrOf st) (lo+n-1))=true then .done (none,n)else .yield (none,n+1)) st)
  (ha:1<=a) (han:a<=nrem) (hs:SI κ (arrOf st) lo a)
  (h:∀n,a<=n->n<=nrem->SI κ (arrOf st) lo n->(n=nrem\/κ.klt (KK κ (arrOf st) (lo+n)) (KK κ (arrOf st) (lo+n-1)))->Q (none,n) st):wpS (model prog w) A E s (forIn [a:nrem] (none,a) f) Q st:=by
 refine wpS_forRange (I:=fun x c st'=>st'=st/\c =(none,x)/\SI κ (arrOf st) lo x) ?_ ?_ ⟨rfl,rfl,hs⟩
 ·rintro x c st' hax hxn ⟨rfl,rfl,hs'⟩
  refine wpS_mono (hf x x (by omega) hxn) fun r st2 ⟨e,er⟩=>?_
  subst e
  cases hless:κ.blt (KK κ (arrOf st2) (lo+x)) (KK κ (arrOf st2) (lo+x-1))
  ·rw[hless,if_neg Bool.false_ne_true]at er
   subst er
   refine⟨rfl,rfl,fun i j hij hj=>?_⟩
   by_cases hjx:j<x
   ·exact hs' i j hij hjx
   ·have hj':j=x:=by omega
    subst hj'
    by_cases hi':i=j
    ·subst hi';exact KeyOrd.kle_refl _
    ·have:=hs' i (j-1) (by omega) (by omega)
     rw[show lo +(j-1)=lo+j-1 by omega]at this
     exact KeyOrd.kle_trans this hless
  ·rw[hless,if_pos rfl]at er
   subst er
   exact h x hax (by omega) hs' (.inr hless)
 ·rintro c st' ⟨rfl,rfl,hs'⟩
  rw[show max a nrem=nrem by omega]at hs'⊢
  exact h nrem han (Nat.le_refl _) hs' (.inl rfl)
theorem NI.step{xs ys:Array Keyed}{lo x:Nat}(hx:1<=x)(hk:∀k,KK κ ys k=KK κ xs k)(hs:NI κ xs lo x)(hl:κ.kle (KK κ xs (lo+x)) (KK κ xs (lo+x-1))):NI κ ys lo (x+1):=by
 intro i j hij hj
 rw[hk,hk]
 by_cases hjx:j<x
 ·exact hs i j hij hjx
 ·have hj':j=x:=by omega
  subst hj'
  by_cases hi':i=j
  ·subst hi';exact KeyOrd.kle_refl _
  ·have:=hs i (j-1) (by omega) (by omega)
   rw[show lo +(j-1)=lo+j-1 by omega]at this
   exact KeyOrd.kle_trans hl this
noncomputable abbrev DS:=Option (Option Nat)×Nat×Nat
theorem Wg{st0 st:SortSt}{lo n nrem:Nat}(hsz:lo+nrem<=a₀.size){f:Nat->DS->StateT SortSt Sem (ForInStep DS)}{Q:DS->SortSt->Prop}
  (hf:∀x n q st',1<=n->n<nrem->Lo κ kd a₀ st0 lo nrem st'->wpS (model prog w) A E s (f x (none,n,q)) (fun r st2 =>
   if κ.blt (KK κ (arrOf st') (lo+n)) (KK κ (arrOf st') (lo+n-1))=true then(st2=if q>0 then setArr st' (mirror (arrOf st') (lo+n-(q+1)) (lo+n) ((lo+n-(lo+n-(q+1))) / 2))else st')/\r = .yield (none,n+1,0)
   else st2=st'/\r=if κ.blt (KK κ (arrOf st') (lo+n-1)) (KK κ (arrOf st') (lo+n))=true then .done (none,n,q)else .yield (none,n+1,q+1)) st')
  (h1:1<=n) (hnn:n<=nrem) (hB:Lo κ kd a₀ st0 lo nrem st) (hs:NI κ (arrOf st) lo n)
  (h:∀m q st',Lo κ kd a₀ st0 lo nrem st'->n<=m->m<=nrem->NI κ (arrOf st') lo m->q+1<=m->(∀i,m-(q+1)<=i->i<m->KK κ (arrOf st') (lo+i)=KK κ (arrOf st') (lo+m-1))->Q (none,m,q) st') :
  wpS (model prog w) A E s (forIn [n:nrem] (none,n,0) f) Q st:=by
 refine wpS_forRange (I:=fun x c st'=>∃q,c =(none,x,q)/\Lo κ kd a₀ st0 lo nrem st'/\NI κ (arrOf st') lo x/\q+1<=x /\
   (∀i,x-(q+1)<=i->i<x->KK κ (arrOf st') (lo+i)=KK κ (arrOf st') (lo+x-1))) ?_ ?_ ⟨0,rfl,hB,hs,by omega,fun i h1 h2=>by congr 1;omega⟩
 ·rintro x c st' hax hxn ⟨q,rfl,hB',hs',hq,he⟩
  have hs0:=hB'.S.size
  refine wpS_mono (hf x x q st' (by omega) hxn hB') fun r st2 hr=>?_
  cases hless:κ.blt (KK κ (arrOf st') (lo+x)) (KK κ (arrOf st') (lo+x-1))
  ·rw[hless,if_neg Bool.false_ne_true]at hr
   obtain⟨e,er⟩:=hr
   subst e
   cases hl:κ.blt (KK κ (arrOf st2) (lo+x-1)) (KK κ (arrOf st2) (lo+x))
   ·rw[hl,if_neg Bool.false_ne_true]at er
    subst er
    have heqx:KK κ (arrOf st2) (lo+x)=KK κ (arrOf st2) (lo+x-1):=KeyOrd.kle_antisymm hl hless
    refine⟨q+1,rfl,hB',NI.step (by omega) (fun _=>rfl) hs' hl,by omega,fun i g1 g2=>?_⟩
    rw[show lo +(x+1)-1=lo+x by omega]
    by_cases hix:i=x
    ·subst hix;rfl
    ·rw[heqx];exact he i (by omega) (by omega)
   ·rw[hl,if_pos rfl]at er
    subst er
    exact h x q st2 hB' hax (by omega) hs' hq he
  ·rw[hless,if_pos rfl]at hr
   obtain⟨e,er⟩:=hr
   subst er
   have hl:κ.kle (KK κ (arrOf st') (lo+x)) (KK κ (arrOf st') (lo+x-1)):=KeyOrd.kle_of_klt hless
   by_cases hq0:q>0
   ·rw[if_pos hq0]at e
    subst e
    refine⟨0,rfl,hB'.mirror (by omega) (by omega) hsz,NI.step (by omega) (KK_mirror_equal (by omega) fun k g1 g2=>?_) hs' hl,by omega,fun i g1 g2=>by congr 1;omega⟩
    have:=he (k-lo) (by omega) (by omega)
    rw[show lo +(k-lo)=k by omega]at this
    exact this
   ·rw[if_neg hq0]at e
    subst e
    exact⟨0,rfl,hB',NI.step (by omega) (fun _=>rfl) hs' hl,by omega,fun i g1 g2=>by congr 1;omega⟩
 ·rintro c st' ⟨q,rfl,hB',hs',hq,he⟩
  rw[show max n nrem=nrem by omega]at hs' hq he⊢
  exact h nrem q st' hB' hnn (Nat.le_refl _) hs' hq he
theorem NI.turn{xs:Array Keyed}{lo n:Nat}(hn:lo+n<=xs.size)(h:NI κ xs lo n):SI κ (mirror xs lo (lo+n) ((lo+n-lo) / 2)) lo n:=by
 intro i j hij hj
 rw[KK_mirror hn,KK_mirror hn,if_pos (by omega),if_pos (by omega)]
 have:=h (n-1-j) (n-1-i) (by omega) (by omega)
 rw[show lo +(n-1-i)=lo +(lo+n)-1-(lo+i) by omega,show lo +(n-1-j)=lo +(lo+n)-1-(lo+j) by omega]at this
 exact this
theorem Eu(C:Cmp prog w A s κ kd)(h0:KeysOf κ a₀){st:SortSt}{lo nrem:Nat}{Q:Option Nat->SortSt->Prop}(hS:St κ kd a₀ st)(hsz:lo+nrem<=a₀.size)(h1:1<=nrem)
  (h:∀m st',Lo κ kd a₀ st lo nrem st'->1<=m->m<=nrem->SI κ (arrOf st') lo m->Q (some m) st'):wpS (model prog w) A E s (countRun' lo nrem) Q st:=by
 have L0:Lo κ kd a₀ st lo nrem st:=⟨hS,rfl,fun _ _=>rfl⟩
 rw[countRun'_eq]
 dsimp only
 refine wpS_bind (Wu (κ:=κ) (lo:=lo) (fun x n g1 g2=>?_) (Nat.le_refl 1) h1 (fun i j hij hj=>by have:i=j:=(by omega);subst this;exact KeyOrd.kle_refl _) fun n hn1 hn2 hsn hor=>?_)
 ·dsimp only
  refine wpS_bind (M0 C h0 hS (by omega) (by omega) ?_)
  dsimp only
  cases κ.blt (KK κ (arrOf st) (lo+n)) (KK κ (arrOf st) (lo+n-1))
  ·exact wpS_pure ⟨rfl,rfl⟩
  ·exact wpS_pure ⟨rfl,rfl⟩
 dsimp only
 by_cases hnn:n=nrem
 ·rw[if_pos (by simpa using hnn)]
  exact wpS_pure (h n st L0 hn1 hn2 hsn)
 rw[if_neg (by simpa using hnn)]
 have hlt:κ.klt (KK κ (arrOf st) (lo+n)) (KK κ (arrOf st) (lo+n-1)):=hor.resolve_left hnn
 have hz:=hS.size
 by_cases hgt:n>1
 ·rw[if_pos hgt]
  refine wpS_bind (M0 C h0 hS (by omega) (by omega) ?_)
  dsimp only
  cases hrose:κ.blt (KK κ (arrOf st) lo) (KK κ (arrOf st) (lo+n-1))with
  | true =>
   simp only[if_true]
   exact wpS_pure (h n st L0 hn1 hn2 hsn)
  | false =>
   simp only[Bool.false_eq_true,if_false]
   have hall:∀k,lo<=k->k<lo+n->KK κ (arrOf st) k=KK κ (arrOf st) (lo+n-1):=by
    intro k hk1 hk2
    have a1:=hsn 0 (k-lo) (by omega) (by omega)
    have a2:=hsn (k-lo) (n-1) (by omega) (by omega)
    rw[Nat.add_zero,show lo +(k-lo)=k by omega]at a1
    rw[show lo +(k-lo)=k by omega,show lo +(n-1)=lo+n-1 by omega]at a2
    exact KeyOrd.kle_antisymm a2 (KeyOrd.kle_trans hrose a1)
   have hk:=KK_mirror_equal (κ:=κ) (xs:=arrOf st) (i:=lo) (j:=lo+n) (by omega) hall
   refine wpS_bind (wpS_reverse ?_)
   have hB2:=L0.mirror (i:=lo) (j:=lo+n) (by omega) (by omega) hsz
   have hN:NI κ (mirror (arrOf st) lo (lo+n) ((lo+n-lo) / 2)) lo (n+1):=by
    refine NI.step (by omega) hk (fun i j hij hj=>?_) (KeyOrd.kle_of_klt hlt)
    rw[hall (lo+i) (by omega) (by omega),hall (lo+j) (by omega) (by omega)]
    exact KeyOrd.kle_refl _
   refine wpS_bind (wpS_lift (wpAny_rule ⟨rfl,?_⟩))
   refine wpS_bind (Wg (κ:=κ) (kd:=kd) (a₀:=a₀) (st0:=st) (lo:=lo) hsz (fun x n' q st' g1 g2 hB'=>?_) (by omega) (by omega) hB2 hN fun m q st' hB3 hm1 hm2 hs3 hq he=>?_)
   ·dsimp only
    refine wpS_bind (M0 C h0 hB'.S (by omega) (by omega) ?_)
    dsimp only
    cases κ.blt (KK κ (arrOf st') (lo+n')) (KK κ (arrOf st') (lo+n' - 1))
    ·simp only[Bool.false_eq_true,if_false]
     refine wpS_bind (M0 C h0 hB'.S (by omega) (by omega) ?_)
     dsimp only
     cases κ.blt (KK κ (arrOf st') (lo+n' - 1)) (KK κ (arrOf st') (lo+n'))
     ·exact wpS_pure ⟨rfl,rfl⟩
     ·exact wpS_pure ⟨rfl,rfl⟩
    ·simp only[if_true]
     by_cases hq:q>0
     ·rw[if_pos hq,if_pos hq]
      exact wpS_bind (wpS_reverse (wpS_pure ⟨rfl,rfl⟩))
     ·rw[if_neg hq,if_neg hq]
      exact wpS_pure ⟨rfl,rfl⟩
   ·dsimp only
    have hz3:=hB3.S.size
    by_cases hq0:q>0
    ·rw[if_pos hq0]
     refine wpS_bind (wpS_reverse (wpS_bind (wpS_reverse ?_)))
     have hB4':=hB3.mirror (i:=lo+m-(q+1)) (j:=lo+m) (by omega) (by omega) hsz
     have hB4:=hB4'.mirror (i:=lo) (j:=lo+m) (by omega) (by omega) hsz
     have hz4:=hB4'.S.size
     have hN4:NI κ (mirror (arrOf st') (lo+m-(q+1)) (lo+m) ((lo+m-(lo+m-(q+1))) / 2)) lo m:=by
      have hk:=KK_mirror_equal (κ:=κ) (xs:=arrOf st') (i:=lo+m-(q+1)) (j:=lo+m) (by omega) (fun k g1 g2=>by
       have:=he (k-lo) (by omega) (by omega)
       rw[show lo +(k-lo)=k by omega]at this
       exact this)
      intro i j hij hj
      rw[hk,hk]
      exact hs3 i j hij hj
     have hT:=hN4.turn (κ:=κ) (lo:=lo) (n:=m) (by rw[mirror_size];omega)
     refine wpS_bind (Wu (κ:=κ) (lo:=lo) (fun x n' g1 g2=>?_) (by omega) hm2 hT fun m' hm1' hm2' hsm _=>wpS_pure (h m' _ hB4 (by omega) hm2' hsm))
     dsimp only
     refine wpS_bind (M0 C h0 hB4.S (by omega) (by omega) ?_)
     dsimp only
     cases κ.blt (KK κ _ (lo+n')) (KK κ _ (lo+n' - 1))
     ·exact wpS_pure ⟨rfl,rfl⟩
     ·exact wpS_pure ⟨rfl,rfl⟩
    ·rw[if_neg hq0]
     refine wpS_bind (wpS_reverse ?_)
     have hB4:=hB3.mirror (i:=lo) (j:=lo+m) (by omega) (by omega) hsz
     have hT:=hs3.turn (κ:=κ) (lo:=lo) (n:=m) (by omega)
     refine wpS_bind (Wu (κ:=κ) (lo:=lo) (fun x n' g1 g2=>?_) (by omega) hm2 hT fun m' hm1' hm2' hsm _=>wpS_pure (h m' _ hB4 (by omega) hm2' hsm))
     dsimp only
     refine wpS_bind (M0 C h0 hB4.S (by omega) (by omega) ?_)
     dsimp only
     cases κ.blt (KK κ _ (lo+n')) (KK κ _ (lo+n' - 1))
     ·exact wpS_pure ⟨rfl,rfl⟩
     ·exact wpS_pure ⟨rfl,rfl⟩
 ·rw[if_neg hgt]
  have hn1':n=1:=by omega
  have hB2:=L0
  have hN:NI κ (arrOf st) lo (n+1):=by
   refine NI.step (by omega) (fun _=>rfl) (fun i j hij hj=>?_) (KeyOrd.kle_of_klt hlt)
   have:i=j:=by omega
   subst this;exact KeyOrd.kle_refl _
  refine wpS_bind (wpS_lift (wpAny_rule ⟨rfl,?_⟩))
  refine wpS_bind (Wg (κ:=κ) (kd:=kd) (a₀:=a₀) (st0:=st) (lo:=lo) hsz (fun x n' q st' g1 g2 hB'=>?_) (by omega) (by omega) hB2 hN fun m q st' hB3 hm1 hm2 hs3 hq he=>?_)
  ·dsimp only
   refine wpS_bind (M0 C h0 hB'.S (by omega) (by omega) ?_)
   dsimp only
   cases κ.blt (KK κ (arrOf st') (lo+n')) (KK κ (arrOf st') (lo+n' - 1))
   ·simp only[Bool.false_eq_true,if_false]
    refine wpS_bind (M0 C h0 hB'.S (by omega) (by omega) ?_)
    dsimp only
    cases κ.blt (KK κ (arrOf st') (lo+n' - 1)) (KK κ (arrOf st') (lo+n'))
    ·exact wpS_pure ⟨rfl,rfl⟩
    ·exact wpS_pure ⟨rfl,rfl⟩
   ·simp only[if_true]
    by_cases hq:q>0
    ·rw[if_pos hq,if_pos hq]
     exact wpS_bind (wpS_reverse (wpS_pure ⟨rfl,rfl⟩))
    ·rw[if_neg hq,if_neg hq]
     exact wpS_pure ⟨rfl,rfl⟩
  ·dsimp only
   have hz3:=hB3.S.size
   by_cases hq0:q>0
   ·rw[if_pos hq0]
    refine wpS_bind (wpS_reverse (wpS_bind (wpS_reverse ?_)))
    have hB4':=hB3.mirror (i:=lo+m-(q+1)) (j:=lo+m) (by omega) (by omega) hsz
    have hB4:=hB4'.mirror (i:=lo) (j:=lo+m) (by omega) (by omega) hsz
    have hz4:=hB4'.S.size
    have hN4:NI κ (mirror (arrOf st') (lo+m-(q+1)) (lo+m) ((lo+m-(lo+m-(q+1))) / 2)) lo m:=by
     have hk:=KK_mirror_equal (κ:=κ) (xs:=arrOf st') (i:=lo+m-(q+1)) (j:=lo+m) (by omega) (fun k g1 g2=>by
      have:=he (k-lo) (by omega) (by omega)
      rw[show lo +(k-lo)=k by omega]at this
      exact this)
     intro i j hij hj
     rw[hk,hk]
     exact hs3 i j hij hj
    have hT:=hN4.turn (κ:=κ) (lo:=lo) (n:=m) (by rw[mirror_size];omega)
    refine wpS_bind (Wu (κ:=κ) (lo:=lo) (fun x n' g1 g2=>?_) (by omega) hm2 hT fun m' hm1' hm2' hsm _=>wpS_pure (h m' _ hB4 (by omega) hm2' hsm))
    dsimp only
    refine wpS_bind (M0 C h0 hB4.S (by omega) (by omega) ?_)
    dsimp only
    cases κ.blt (KK κ _ (lo+n')) (KK κ _ (lo+n' - 1))
    ·exact wpS_pure ⟨rfl,rfl⟩
    ·exact wpS_pure ⟨rfl,rfl⟩
   ·rw[if_neg hq0]
    refine wpS_bind (wpS_reverse ?_)
    have hB4:=hB3.mirror (i:=lo) (j:=lo+m) (by omega) (by omega) hsz
    have hT:=hs3.turn (κ:=κ) (lo:=lo) (n:=m) (by omega)
    refine wpS_bind (Wu (κ:=κ) (lo:=lo) (fun x n' g1 g2=>?_) (by omega) hm2 hT fun m' hm1' hm2' hsm _=>wpS_pure (h m' _ hB4 (by omega) hm2' hsm))
    dsimp only
    refine wpS_bind (M0 C h0 hB4.S (by omega) (by omega) ?_)
    dsimp only
    cases κ.blt (KK κ _ (lo+n')) (KK κ _ (lo+n' - 1))
    ·exact wpS_pure ⟨rfl,rfl⟩
    ·exact wpS_pure ⟨rfl,rfl⟩
theorem Lo.bubble{st0 st:SortSt}{lo n src d:Nat}(h:Lo κ kd a₀ st0 lo n st)(h1:lo+d<=src)(h2:src<lo+n)(hn:lo+n<=a₀.size):Lo κ kd a₀ st0 lo n (setArr st (bubble (arrOf st) src d)):=by
 refine⟨⟨(Array.perm_iff_toList_perm.mp (bubble_perm _ _ _)).trans h.S.perm,h.S.kind,h.S.failed⟩,h.pend,fun t ht=>?_⟩
 show(PyProof.Rows.bubble (arrOf st) src d)[t]?=_
 have:=h.S.size
 rw[getElem?_bubble (by omega) d (by omega),if_neg (by omega),if_neg (by omega)]
 exact h.out t ht
theorem Ar(C:Cmp prog w A s κ kd)(h0:KeysOf κ a₀){st0 st:SortSt}{lo nrem n ok:Nat}{Q:Bool->SortSt->Prop}(hB:Lo κ kd a₀ st0 lo nrem st)(hsz:lo+nrem<=a₀.size)(hn:n<=nrem)(hok:ok<=n)(hs:SI κ (arrOf st) lo ok)
  (h:∀st',Lo κ kd a₀ st0 lo nrem st'->SI κ (arrOf st') lo n->Q true st'):wpS (model prog w) A E s (binarySort' lo n ok) Q st:=by
 rw[binarySort'_eq]
 refine wpS_bind (wpS_mono (wpS_forRange (I:=fun k c st'=>c =(none,())/\Lo κ kd a₀ st0 lo nrem st'/\SI κ (arrOf st') lo (min k n))
  (Q:=fun c st'=>c =(none,())/\Lo κ kd a₀ st0 lo nrem st'/\SI κ (arrOf st') lo n) ?step ?fin ?init) ?post)
 case post =>
  rintro c st' ⟨rfl,hB',hs'⟩
  exact wpS_pure (h st' hB' hs')
 case init =>
  refine⟨rfl,hB,fun i j hij hj=>?_⟩
  by_cases h1:ok=0
  ·have:i=j:=by omega
   subst this;exact KeyOrd.kle_refl _
  ·exact hs i j hij (by omega)
 case fin =>
  rintro c st' ⟨hc,hB',hs'⟩
  refine⟨hc,hB',?_⟩
  rwa [show min (max (max ok 1) n) n=n by omega]at hs'
 case step =>
  rintro k c st' hak hkn ⟨rfl,hB',hs'⟩
  rw[show min k n=k by omega]at hs'
  dsimp only
  refine wpS_bind (wpS_mono (wpS_forRange (I:=fun x c st''=>st''=st'/\∃l r,c =(none,l,r)/\l<=r/\r<=k/\r-l<=k-x /\
    (∀i,i<l->κ.kle (KK κ (arrOf st') (lo+i)) (KK κ (arrOf st') (lo+k)))/\(∀i,r<=i->i<k->κ.klt (KK κ (arrOf st') (lo+k)) (KK κ (arrOf st') (lo+i))))
   (Q:=fun c st''=>st''=st'/\∃l r,c =(none,l,r)/\l<=k /\
    (∀i,i<l->κ.kle (KK κ (arrOf st') (lo+i)) (KK κ (arrOf st') (lo+k)))/\(∀i,l<=i->i<k->κ.klt (KK κ (arrOf st') (lo+k)) (KK κ (arrOf st') (lo+i)))) ?istep ?ifin ?iinit) ?ipost)
  case iinit=>exact⟨rfl,0,k,rfl,by omega,by omega,by omega,fun i hi=>by omega,fun i h1 h2=>by omega⟩
  case ifin =>
   rintro c st'' ⟨rfl,l,r,rfl,hlr,hrk,hm,hlo,hhi⟩
   have:l=r:=by omega
   subst this
   exact⟨rfl,l,l,rfl,hrk,hlo,hhi⟩
  case istep =>
   rintro x c st'' _ hxk ⟨rfl,l,r,rfl,hlr,hrk,hm,hlo,hhi⟩
   dsimp only
   by_cases hge:l ≥ r
   ·rw[if_pos hge]
    have:l=r:=by omega
    subst this
    exact wpS_pure ⟨rfl,l,l,rfl,hrk,hlo,hhi⟩
   ·rw[if_neg hge]
    refine wpS_bind (M0 C h0 hB'.S (by omega) (by omega) ?_)
    dsimp only
    cases hless:κ.blt (KK κ (arrOf st'') (lo+k)) (KK κ (arrOf st'') (lo +(l+r) / 2))
    case true =>
     simp only[if_true]
     refine wpS_pure ⟨rfl,l,(l+r) / 2,rfl,by omega,by omega,by omega,hlo,fun i h1 h2=>?_⟩
     exact KeyOrd.klt_of_klt_of_kle hless (hs' _ _ h1 h2)
    case false =>
     simp only[Bool.false_eq_true,if_false]
     refine wpS_pure ⟨rfl,(l+r) / 2+1,r,rfl,by omega,by omega,by omega,fun i h1=>?_,hhi⟩
     exact KeyOrd.kle_trans (hs' i ((l+r) / 2) (by omega) (by omega)) (show κ.kle _ _ from hless)
  case ipost =>
   rintro c st'' ⟨rfl,l,r,rfl,hlk,hlo,hhi⟩
   have hz:=hB'.S.size
   show wpS _ _ _ _ (do moveDown' (lo+k) (lo+l);pure (ForInStep.yield (none,()))) _ _
   rw[moveDown'_eq]
   refine wpS_bind (wpS_modify (wpS_pure ⟨rfl,hB'.bubble (by omega) (by omega) hsz,?_⟩))
   rw[show min (k+1) n=k+1 by omega]
   intro i j hij hj
   show κ.kle (KK κ (bubble (arrOf st'') (lo+k) (lo+k-(lo+l))) (lo+i)) (KK κ (bubble (arrOf st'') (lo+k) (lo+k-(lo+l))) (lo+j))
   rw[KK_bubble (by omega) (by omega),KK_bubble (by omega) (by omega),show lo+k-(lo+k-(lo+l))=lo+l by omega]
   have shift:∀z,1<=z->lo+z-1=lo +(z-1):=fun z _=>by omega
   repeat' split
   all_goals first
    | (exfalso;omega)
    | exact KeyOrd.kle_refl _
    | exact hlo _ (by omega)
    | exact KeyOrd.kle_of_klt (hhi _ (by omega) (by omega))
    | exact hs' _ _ (by omega) (by omega)
    | (rw[shift j (by omega)];exact KeyOrd.kle_of_klt (hhi _ (by omega) (by omega)))
    | (rw[shift i (by omega)];exact hlo _ (by omega))
    | (rw[shift j (by omega)];exact hs' _ _ (by omega) (by omega))
    | (rw[shift i (by omega),shift j (by omega)];exact hs' _ _ (by omega) (by omega))
    | (rw[shift i (by omega)];exact hs' _ _ (by omega) (by omega))
end
noncomputable abbrev Run:=Nat×Nat×Nat
noncomputable def Cov:List Run->Nat->Nat->Prop
 | [],a,b=>a=b
 | x::r,a,b=>x.1=a/\1<=x.2.1/\Cov r (a+x.2.1) b
theorem Cov.app:∀{l1 l2:List Run} {a b:Nat},Cov (l1++l2) a b↔∃c,Cov l1 a c/\Cov l2 c b
 | [],l2,a,b=>⟨fun h=>⟨a,rfl,h⟩,fun⟨c,h1,h2⟩=>by have:a=c:=h1;subst this;exact h2⟩
 | x::r,l2,a,b=>by
  constructor
  ·rintro⟨h1,h2,h3⟩
   obtain⟨c,h4,h5⟩:=Cov.app.mp h3
   exact⟨c,⟨h1,h2,h4⟩,h5⟩
  ·rintro⟨c,⟨h1,h2,h4⟩,h5⟩
   exact⟨h1,h2,Cov.app.mpr ⟨c,h4,h5⟩⟩
theorem Cov.le:∀{l:List Run} {a b:Nat},Cov l a b->a+l.length<=b
 | [],a,b,h=>by have:a=b:=h;subst this;simp
 | x::r,a,b,⟨h1,h2,h3⟩=>by have:=Cov.le h3;rw[List.length_cons];omega
theorem Cov.mem:∀{l:List Run} {a b:Nat} {x:Run},Cov l a b->x∈l->a<=x.1/\x.1+x.2.1<=b
 | [],_,_,_,_,hx=>absurd hx (by simp)
 | y::r,a,b,x,⟨h1,h2,h3⟩,hx=>by
  have hl:=Cov.le h3
  rcases List.mem_cons.mp hx with e | hx
  ·subst e;omega
  ·have:=Cov.mem h3 hx;omega
theorem zAu{l:List Run}{i:Nat}{x y:Run}(hx:l[i]?=some x)(hy:l[i+1]?=some y):l=l.take i++x::y::l.drop (i+2):=by
 obtain⟨h1,rfl⟩:=List.getElem?_eq_some_iff.mp hx
 obtain⟨h2,rfl⟩:=List.getElem?_eq_some_iff.mp hy
 conv=>lhs;rw[<-List.take_append_drop i l]
 rw[List.drop_eq_getElem_cons h1,List.drop_eq_getElem_cons h2]
theorem Yt{l:List Run}{i:Nat}{x y:Run}(z:Run)(hx:l[i]?=some x)(hy:l[i+1]?=some y):(l.set i z).eraseIdx (i+1)=l.take i++z::l.drop (i+2):=by
 obtain⟨h1,_⟩:=List.getElem?_eq_some_iff.mp hx
 obtain⟨h2,_⟩:=List.getElem?_eq_some_iff.mp hy
 have e:=zAu hx hy
 have hl:(l.take i).length=i:=by rw[List.length_take];omega
 generalize l.take i=p at *
 generalize l.drop (i+2)=q at *
 subst e
 rw[List.set_append_right _ _ (by omega),hl,Nat.sub_self,List.eraseIdx_append_of_length_le (by omega),hl,show i+1-i=1 by omega]
 rfl
section
variable{prog:Program}{w:World}{A:Around}{E:Value->Shared->Prop}{s:Shared}{κ:KeyKind}{kd:SortKind}{a₀:Array Keyed}
structure RI(κ:KeyKind)(kd:SortKind)(a₀:Array Keyed)(lo:Nat)(st:SortSt):Prop where
 S:St κ kd a₀ st
 cov:Cov (pendingOf st).toList 0 lo
 sor:∀x∈(pendingOf st).toList,Sor κ (seg (arrOf st).toList x.1 x.2.1)
theorem Go(C:Cmp prog w A s κ kd)(h0:KeysOf κ a₀){st:SortSt}{lo i:Nat}{Q:Bool->SortSt->Prop}(R:RI κ kd a₀ lo st)(hlo:lo<=a₀.size)(hi:i+1 <(pendingOf st).size)
  (h:∀st',RI κ kd a₀ lo st'->(pendingOf st').size+1 =(pendingOf st).size->Part κ (arrOf st).toList (arrOf st').toList 0 lo->Q true st'):wpS (model prog w) A E s (mergeAt' i) Q st:=by
 obtain⟨⟨sa,na,pw⟩,hx⟩:∃x,(pendingOf st)[i]?=some x:=⟨_,getElem?_pos _ i (by omega)⟩
 obtain⟨⟨sb,nb,pw2⟩,hy⟩:∃x,(pendingOf st)[i+1]?=some x:=⟨_,getElem?_pos _ (i+1) hi⟩
 have hx':(pendingOf st).toList[i]?=some (sa,na,pw):=by rw[Array.getElem?_toList];exact hx
 have hy':(pendingOf st).toList[i+1]?=some (sb,nb,pw2):=by rw[Array.getElem?_toList];exact hy
 have e:=zAu hx' hy'
 have c:=R.cov
 rw[e]at c
 obtain⟨c0,c1,c2⟩:=Cov.app.mp c
 obtain⟨d1,d2,d3,d4,d5⟩:=c2
 dsimp only at d1 d2 d3 d4 d5
 have hl5:=Cov.le d5
 refine Hy C h0 R.S hx hy (by omega) (by omega) d2 d4 (R.sor _ (List.mem_of_getElem? hx')) (R.sor _ (List.mem_of_getElem? hy')) fun st' S' P' s' p'=>?_
 have ep:(pendingOf st').toList =(pendingOf st).toList.take i ++(sa,na+nb,pw) ::(pendingOf st).toList.drop (i+2):=by
  rw[p',<-Yt (sa,na+nb,pw) hx' hy']
  simp
 refine h st' ⟨S',?_,fun x hxm=>?_⟩ ?_ ?_
 ·rw[ep]
  exact Cov.app.mpr ⟨c0,c1,d1,(by show 1<=na+nb;omega),(by show Cov _ (c0 +(na+nb)) lo;rw[<-Nat.add_assoc];exact d5)⟩
 ·rw[ep]at hxm
  have old:∀y∈(pendingOf st).toList,(y.1+y.2.1<=sa\/sa +(na+nb)<=y.1)->Sor κ (seg (arrOf st').toList y.1 y.2.1):=fun y hy ho=>by
   have:=R.sor y hy
   rcases ho with ho | ho
   ·rw[P'.seg_front ho];exact this
   ·rw[P'.seg_back ho];exact this
  rcases List.mem_append.mp hxm with hm | hm
  ·have:=Cov.mem c1 hm
   exact old x (List.mem_of_mem_take hm) (.inl (by omega))
  ·rcases List.mem_cons.mp hm with hm | hm
   ·subst hm
    exact s'
   ·have:=Cov.mem d5 hm
    exact old x (List.mem_of_mem_drop hm) (.inr (by omega))
 ·have:=congrArg List.length ep
  rw[Array.length_toList,List.length_append,List.length_cons,List.length_take,List.length_drop,Array.length_toList]at this
  omega
 ·have hb:∀z:List Keyed,z.drop (0+lo) =(z.drop (sa +(na+nb))).drop (lo-(sa +(na+nb))):=fun z=>by
   rw[List.drop_drop];congr 1;omega
  exact⟨P'.perm,rfl,by rw[hb,hb,P'.back]⟩
theorem w4{l:Array Run}{pw:Nat}:(l.modify (l.size-1) fun x=>(x.1,x.2.1,pw)).toList.map (fun x:Run=>(x.1,x.2.1))=l.toList.map fun x:Run=>(x.1,x.2.1):=by
 refine List.ext_getElem? fun t=>?_
 rw[List.getElem?_map,List.getElem?_map,Array.getElem?_toList,Array.getElem?_toList,Array.getElem?_modify]
 split
 ·cases l[t]?<;>rfl
 ·rfl
theorem Cov.congr:∀{l l':List Run} {a b:Nat},l'.map (fun x:Run=>(x.1,x.2.1))=l.map (fun x:Run=>(x.1,x.2.1))->Cov l a b->Cov l' a b
 | [],[],_,_,_,h=>h
 | [],_::_,_,_,e,_=>by simp at e
 | _::_,[],_,_,e,_=>by simp at e
 | x::r,y::r',a,b,e,⟨h1,h2,h3⟩=>by
  rw[List.map_cons,List.map_cons]at e
  obtain⟨e1,e2⟩:=List.cons.inj e
  obtain⟨e3,e4⟩:=Prod.mk.inj e1
  exact⟨e3.trans h1,by rw[e4];exact h2,by rw[e4];exact Cov.congr e2 h3⟩
theorem RI.congr{lo:Nat}{st:SortSt}(R:RI κ kd a₀ lo st){p:Array Run}(e:p.toList.map (fun x:Run=>(x.1,x.2.1)) =(pendingOf st).toList.map fun x:Run=>(x.1,x.2.1)):RI κ kd a₀ lo (setPending st p):=by
 refine⟨⟨R.S.perm,R.S.kind,R.S.failed⟩,Cov.congr e R.cov,fun x hx=>?_⟩
 have:(x.1,x.2.1)∈(pendingOf st).toList.map fun x:Run=>(x.1,x.2.1):=by
  rw[<-e]
  exact List.mem_map.mpr ⟨x,hx,rfl⟩
 obtain⟨y,hy,ey⟩:=List.mem_map.mp this
 obtain⟨e1,e2⟩:=Prod.mk.inj ey
 have:=R.sor y hy
 rw[e1,e2]at this
 exact this
theorem Bz(C:Cmp prog w A s κ kd)(h0:KeysOf κ a₀){st:SortSt}{Q:Unit->SortSt->Prop}(hS:St κ kd a₀ st)(hp:pendingOf st = #[])
  (h:∀st',St κ kd a₀ st'->Sor κ (arrOf st').toList->Q () st'):wpS (model prog w) A E s sortRuns' Q st:=by
 rw[sortRuns'_eq]
 refine wpS_bind (wpS_get ?_)
 dsimp only
 have hz:=hS.size
 rw[hz]
 generalize minRun' a₀.size a₀.size 0=mr
 refine wpS_bind (wpS_mono (wpS_forRange (I:=fun x c st'=>∃lo,c =(none,lo)/\RI κ kd a₀ lo st'/\lo<=a₀.size/\min x a₀.size<=lo)
  (Q:=fun c st'=>∃lo,c =(none,lo)/\RI κ kd a₀ lo st'/\lo=a₀.size) ?st ?en ⟨0,rfl,⟨hS,by rw[hp];rfl,fun x hx=>by rw[hp]at hx;exact absurd hx (by simp)⟩,Nat.zero_le _,by omega⟩) ?po)
 case en =>
  rintro c st' ⟨lo,rfl,R,h1,h2⟩
  exact⟨lo,rfl,R,by omega⟩
 case po =>
  rintro c st' ⟨lo,rfl,R,rfl⟩
  dsimp only
  refine wpS_bind (wpS_mono (wpS_forRange (I:=fun x c st'=>c =(none,())/\RI κ kd a₀ a₀.size st'/\(pendingOf st').size+x<=a₀.size+1)
   (Q:=fun c st'=>c =(none,())/\RI κ kd a₀ a₀.size st'/\(pendingOf st').size<=1) ?st3 ?en3 ⟨rfl,R,?in3⟩) ?po3)
  case in3 =>
   have:=Cov.le R.cov
   rw[Array.length_toList]at this
   omega
  case en3 =>
   rintro c st2 ⟨rfl,R2,g⟩
   exact⟨rfl,R2,by omega⟩
  case po3 =>
   rintro c st2 ⟨rfl,R2,g⟩
   refine wpS_pure (h st2 R2.S ?_)
   have c:=R2.cov
   have so:=R2.sor
   have hz2:=R2.S.size
   have hl:(pendingOf st2).toList.length<=1:=by rw[Array.length_toList];exact g
   generalize (pendingOf st2).toList=l at c so hl
   match l,c,so,hl with
   | [],c,_,_ =>
    have c':0=a₀.size:=c
    have:(arrOf st2).toList = []:=List.eq_nil_of_length_eq_zero (by rw[Array.length_toList];omega)
    rw[this]
    exact List.Pairwise.nil
   | [x],⟨c1,c2,c3⟩,so,_ =>
    have c3':0+x.2.1=a₀.size:=c3
    have:=so x (List.mem_singleton.mpr rfl)
    unfold seg at this
    rw[c1,List.drop_zero,List.take_of_length_le (by rw[Array.length_toList];omega)]at this
    exact this
   | _::_::_,_,_,hl=>exact absurd hl (by simp)
  case st3 =>
   rintro x c st2 _ hx ⟨rfl,R2,g⟩
   try dsimp only
   refine wpS_bind (wpS_get ?_)
   by_cases hle:(pendingOf st2).size<=1
   ·rw[if_pos hle]
    exact wpS_pure ⟨rfl,R2,hle⟩
   rw[if_neg hle]
   refine wpS_bind (Go C h0 R2 (Nat.le_refl _) ?_ fun st3 R3 e3 _=>?_)
   ·have hi2:∀{c:Prop} [Decidable c] {n:Nat},(if c then n-1 else n)+1<=n+1:=by intro c _ n;split<;>omega
    exact Nat.lt_of_le_of_lt hi2 (by omega)
   ·simp only[Bool.not_true,Bool.false_eq_true,if_false]
    exact wpS_pure ⟨rfl,R3,by omega⟩
 case st =>
  rintro x c st' _ hx ⟨lo,rfl,R,h1,h2⟩
  dsimp only
  by_cases hge:lo ≥ a₀.size
  ·rw[if_pos hge]
   exact wpS_pure ⟨lo,rfl,R,by omega⟩
  rw[if_neg hge]
  refine wpS_bind (Eu C h0 R.S (by omega) (by omega) fun m st2 L2 hm1 hm2 hs2=>?_)
  dsimp only
  by_cases hmr:m<mr
  ·rw[if_pos hmr]
   refine wpS_bind (wpS_lift (wpAny_rule ⟨rfl,?_⟩))
   refine wpS_bind (Ar C h0 L2 (by omega) (show min (a₀.size-lo) mr<=a₀.size-lo by omega) (by omega) hs2 fun st5 L5 s5=>?_)
   simp only[Bool.not_true,Bool.false_eq_true,if_false]
   have hN:1<=min (a₀.size-lo) mr/\min (a₀.size-lo) mr<=a₀.size-lo:=by omega
   generalize min (a₀.size-lo) mr=N at hN s5⊢
   have R5:RI κ kd a₀ lo st5:=by
    refine⟨L5.S,by rw[L5.pend];exact R.cov,fun y hy=>?_⟩
    rw[L5.pend]at hy
    have hc:=Cov.mem R.cov hy
    rw[(L5.part R.S).seg_front (by omega)]
    exact R.sor y hy
   refine wpS_bind (wpS_get ?_)
   have push:∀(st6:SortSt),RI κ kd a₀ lo st6->Sor κ (seg (arrOf st6).toList lo N)->RI κ kd a₀ (lo+N) (setPending st6 ((pendingOf st6).push (lo,N,0))):=fun st6 R6 s6=>by
    refine⟨⟨R6.S.perm,R6.S.kind,R6.S.failed⟩,?_,fun y hy=>?_⟩
    ·show Cov ((pendingOf st6).push (lo,N,0)).toList 0 (lo+N)
     rw[Array.toList_push]
     exact Cov.app.mpr ⟨lo,R6.cov,rfl,(by show 1<=N;omega),rfl⟩
    ·have hy':y∈((pendingOf st6).push (lo,N,0)).toList:=hy
     rw[Array.toList_push]at hy'
     rcases List.mem_append.mp hy' with hy' | hy'
     ·exact R6.sor y hy'
     ·rw[List.mem_singleton.mp hy']
      exact s6
   cases hbk:(pendingOf st5).back? with
   | none =>
    dsimp only
    refine wpS_bind (wpS_modify (wpS_pure ⟨_,rfl,push _ R5 s5.sor,by omega,by omega⟩))
   | some bk =>
    obtain⟨s1,n1,pb⟩:=bk
    dsimp only
    generalize power' a₀.size (2*s1+n1) (2*s1+n1+n1+N) a₀.size=pw
    refine wpS_bind (wpS_mono (wpS_forRange (I:=fun x c st6=>c =(none,())/\RI κ kd a₀ lo st6/\Part κ (arrOf st5).toList (arrOf st6).toList 0 lo)
     (Q:=fun c st6=>c =(none,())/\RI κ kd a₀ lo st6/\Part κ (arrOf st5).toList (arrOf st6).toList 0 lo) ?stc1 (fun _ _ z=>z) ⟨rfl,R5,Part.refl _ _ _⟩) ?poc1)
    case stc1 =>
     rintro x' c st6 _ _ ⟨rfl,R6,P6⟩
     try dsimp only
     refine wpS_bind (wpS_get ?_)
     by_cases hp1:(pendingOf st6).size>1
     ·rw[if_pos hp1]
      obtain⟨⟨u1,u2,ol⟩,hu⟩:∃y,(pendingOf st6)[(pendingOf st6).size-2]?=some y:=⟨_,getElem?_pos _ _ (by omega)⟩
      rw[hu]
      dsimp only
      by_cases hol:ol<=pw
      ·rw[if_pos hol]
       exact wpS_pure ⟨rfl,R6,P6⟩
      rw[if_neg hol]
      refine wpS_bind (Go C h0 R6 h1 (by omega) fun st7 R7 _ P7=>?_)
      simp only[Bool.not_true,Bool.false_eq_true,if_false]
      exact wpS_pure ⟨rfl,R7,⟨P7.perm.trans P6.perm,rfl,P7.back.trans P6.back⟩⟩
     ·rw[if_neg hp1]
      exact wpS_pure ⟨rfl,R6,P6⟩
    case poc1 =>
     rintro c st6 ⟨rfl,R6,P6⟩
     dsimp only
     refine wpS_bind (wpS_modify (wpS_bind (wpS_modify (wpS_pure ⟨_,rfl,push _ (R6.congr w4) ?_,by omega,by omega⟩))))
     show Sor κ (seg (arrOf st6).toList lo N)
     rw[P6.seg_back (by omega)]
     exact s5.sor
  ·rw[if_neg hmr]
   have R5:RI κ kd a₀ lo st2:=by
    refine⟨L2.S,by rw[L2.pend];exact R.cov,fun y hy=>?_⟩
    rw[L2.pend]at hy
    have hc:=Cov.mem R.cov hy
    rw[(L2.part R.S).seg_front (by omega)]
    exact R.sor y hy
   refine wpS_bind (wpS_get ?_)
   have push:∀(st6:SortSt),RI κ kd a₀ lo st6->Sor κ (seg (arrOf st6).toList lo m)->RI κ kd a₀ (lo+m) (setPending st6 ((pendingOf st6).push (lo,m,0))):=fun st6 R6 s6=>by
    refine⟨⟨R6.S.perm,R6.S.kind,R6.S.failed⟩,?_,fun y hy=>?_⟩
    ·show Cov ((pendingOf st6).push (lo,m,0)).toList 0 (lo+m)
     rw[Array.toList_push]
     exact Cov.app.mpr ⟨lo,R6.cov,rfl,(by show 1<=m;omega),rfl⟩
    ·have hy':y∈((pendingOf st6).push (lo,m,0)).toList:=hy
     rw[Array.toList_push]at hy'
     rcases List.mem_append.mp hy' with hy' | hy'
     ·exact R6.sor y hy'
     ·rw[List.mem_singleton.mp hy']
      exact s6
   cases hbk:(pendingOf st2).back? with
   | none =>
    dsimp only
    refine wpS_bind (wpS_modify (wpS_pure ⟨_,rfl,push _ R5 hs2.sor,by omega,by omega⟩))
   | some bk =>
    obtain⟨s1,n1,pb⟩:=bk
    dsimp only
    generalize power' a₀.size (2*s1+n1) (2*s1+n1+n1+m) a₀.size=pw
    refine wpS_bind (wpS_mono (wpS_forRange (I:=fun x c st6=>c =(none,())/\RI κ kd a₀ lo st6/\Part κ (arrOf st2).toList (arrOf st6).toList 0 lo)
     (Q:=fun c st6=>c =(none,())/\RI κ kd a₀ lo st6/\Part κ (arrOf st2).toList (arrOf st6).toList 0 lo) ?stc2 (fun _ _ z=>z) ⟨rfl,R5,Part.refl _ _ _⟩) ?poc2)
    case stc2 =>
     rintro x' c st6 _ _ ⟨rfl,R6,P6⟩
     try dsimp only
     refine wpS_bind (wpS_get ?_)
     by_cases hp1:(pendingOf st6).size>1
     ·rw[if_pos hp1]
      obtain⟨⟨u1,u2,ol⟩,hu⟩:∃y,(pendingOf st6)[(pendingOf st6).size-2]?=some y:=⟨_,getElem?_pos _ _ (by omega)⟩
      rw[hu]
      dsimp only
      by_cases hol:ol<=pw
      ·rw[if_pos hol]
       exact wpS_pure ⟨rfl,R6,P6⟩
      rw[if_neg hol]
      refine wpS_bind (Go C h0 R6 h1 (by omega) fun st7 R7 _ P7=>?_)
      simp only[Bool.not_true,Bool.false_eq_true,if_false]
      exact wpS_pure ⟨rfl,R7,⟨P7.perm.trans P6.perm,rfl,P7.back.trans P6.back⟩⟩
     ·rw[if_neg hp1]
      exact wpS_pure ⟨rfl,R6,P6⟩
    case poc2 =>
     rintro c st6 ⟨rfl,R6,P6⟩
     dsimp only
     refine wpS_bind (wpS_modify (wpS_bind (wpS_modify (wpS_pure ⟨_,rfl,push _ (R6.congr w4) ?_,by omega,by omega⟩))))
     show Sor κ (seg (arrOf st6).toList lo m)
     rw[P6.seg_back (by omega)]
     exact hs2.sor
end
noncomputable def kd1(κ:KeyKind)(v:Value):κ.α:=(κ.keyOf v).getD κ.dflt
section
variable{prog:Program}{w:World}{A:Around}{E:Value->Shared->Prop}{s:Shared}{κ:KeyKind}{kd:SortKind}
noncomputable def Ext(a:Addr)(s s':Shared):Prop:=∀b o,b≠a->s.heap.get? b=some o->s'.heap.get? b=some o
structure Keys(prog:Program)(w:World)(a:Addr)(s:Shared)(κ:KeyKind)(kd:SortKind)(vs:List Value):Prop where
 cmp:∀(A:Around) (s':Shared),Ext a s s'->Cmp prog w A s' κ kd
 key:∀v∈vs,∃k,κ.keyOf v=some k
 kind:2<=vs.length->∀(A:Around) (E:Value->Shared->Prop) (s':Shared) (Q:SortKind->Shared->Prop),Ext a s s'->Q kd s'->wpAny (model prog w) A (keyKind' vs.toArray) Q E s'
noncomputable def Out(κ:KeyKind)(vs:List Value)(out:Array Value):Prop:=out.toList.Perm vs/\out.toList.Pairwise fun u v=>κ.kle (kd1 κ u) (kd1 κ v)
theorem Sh{vs:List Value}{xs:Array Keyed}(hp:xs.toList.Perm (pairsOf vs).toList)(hs:Sor κ xs.toList):Out κ vs (xs.map (·.2)):=by
 rw[pairsOf_toList]at hp
 have hm:∀p∈xs.toList,p.1=p.2:=fun p h=>(mem_zip_self (hp.mem_iff.mp h)).1
 have e:(xs.map (·.2)).toList=xs.toList.map (·.1):=by
  rw[Array.toList_map];exact List.map_congr_left fun p h=>(hm p h).symm
 refine⟨?_,?_⟩
 ·rw[e]
  have:=hp.map Prod.fst
  rwa [List.map_fst_zip (Nat.le_refl _)]at this
 ·rw[e,List.pairwise_map]
  exact hs
theorem Ca{a:Addr}{vs:List Value}{n:Nat}{P:Fin->Shared->Prop}(ho:s.heap.get? a=some (seqObj "list" vs.toArray n))(hz:vs.length<=sizeLine)(K:Keys prog w a s κ kd vs)
  (h:∀out:Array Value,Out κ vs out->P (.done (.ret .none)) { s with heap:=sortedHeap s.heap a vs out }) :
  wpAny (model prog w) A (Builtin.«list.sort» ⟨[.ref a],[]⟩) P E s:=by
 rw[list_sort_plain]
 have ha:a<s.heap.objs.size:=Heap.lt_size ho
 have hsz:vs.toArray.size=vs.length:=by simp
 refine wpAny_bind (listItems_at ho rfl ?_)
 refine wpAny_bind (listUpdate_at ho rfl ?_ (by rw[hsz];exact hz) (by simp))
 obtain⟨e1,ho1⟩:∃e1,(s.heap.update a (Obj.mapSeq fun _=>#[])).get? a=some (seqObj "list" #[] e1):=⟨_,get?_update_seq ho (fun _=>#[])⟩
 refine wpAny_bind (seqEpoch_at ho1 rfl ?_)
 refine wpAny_bind (wpAny_newTuple ?_ (by simpa using hz))
 refine wpAny_bind (wpAny_newList ?_)
 refine wpAny_holding ?_
 have ho6:(((s.heap.update a (Obj.mapSeq fun _=>#[])).push (seqObj "tuple" vs.toArray 0)).push (seqObj "list" #[] 0)).get? a=some (seqObj "list" #[] e1):=by
  rw[Heap.get?_push_ne _ _ _ (by rw[size_push',Heap.size_update];exact Nat.ne_of_lt (Nat.lt_succ_of_lt ha)),Heap.get?_push_ne _ _ _ (by rw[Heap.size_update];exact Nat.ne_of_lt ha)]
  exact ho1
 show wpAny (model prog w) A _ P E { s with heap:=((s.heap.update a (Obj.mapSeq fun _=>#[])).push (seqObj "tuple" vs.toArray 0)).push (seqObj "list" #[] 0) }
 dsimp only
 have hE:Ext a s { s with heap:=((s.heap.update a (Obj.mapSeq fun _=>#[])).push (seqObj "tuple" vs.toArray 0)).push (seqObj "list" #[] 0) }:=fun b o hb e =>
  Heap.get?_push_of_some _ (Heap.get?_push_of_some _ ((Heap.get?_update_other s.heap _ (Ne.symm hb)).trans e))
 by_cases h2:vs.toArray.size<2
 ·rw[if_pos h2,if_pos h2]
  refine wpAny_bind (wpAny_pure ?_)
  rw[StateT.run_pure]
  refine wpAny_bind (wpAny_pure ?_)
  dsimp only
  refine wpAny_bind (seqEpoch_at ho6 rfl ?_)
  refine wpAny_bind (listUpdate_at ho6 rfl ?_ (by simp) (by rw[Array.size_map];show(pairsOf vs).size<=_;rw[pairsOf_size];omega))
  simp only[bne_self_eq_false,Bool.false_eq_true,if_false]
  refine wpAny_pure (h _ (Sh (κ:=κ) (xs:=pairsOf vs) (List.Perm.refl _) ?_))
  rw[pairsOf_toList]
  rw[hsz]at h2
  match vs,h2 with
  | [],_=>exact List.Pairwise.nil
  | [v],_=>exact List.pairwise_singleton _ _
  | _::_::_,h2=>simp at h2;omega
 ·rw[if_neg h2,if_neg h2]
  refine wpAny_bind (K.kind (by omega) A E _ _ hE ?_)
  refine wpAny_bind (wpAny_mono (Bz (K.cmp A _ hE) (a₀:=pairsOf vs) (st:=SortSt.mk' kd (vs.toArray.zip vs.toArray) #[] 7 none)
   (Q:=fun _ st'=>St κ kd (pairsOf vs) st'/\Sor κ (arrOf st').toList)
   (fun p hp=>?_) ⟨List.Perm.refl _,rfl,rfl⟩ rfl fun st' a1 a2=>⟨a1,a2⟩) ?_ fun _ _ e=>e)
  ·rw[pairsOf_toList]at hp
   exact K.key _ (mem_zip_self hp).2
  rintro⟨⟨⟩,st'⟩ s' ⟨rfl,hp,hs⟩
  dsimp only
  refine wpAny_bind (seqEpoch_at ho6 rfl ?_)
  refine wpAny_bind (listUpdate_at ho6 rfl ?_ (by simp) (by rw[Array.size_map];show(arrOf st').size<=_;rw[hp.size,pairsOf_size];omega))
  rw[show failedOf st'=none from hp.failed]
  simp only[bne_self_eq_false,Bool.false_eq_true,if_false]
  exact wpAny_pure (h _ (Sh hp.perm hs))
theorem sorted_gen{x:Value}{Q:Value->Shared->Prop}
  (hc:wpAny (model prog w) A.in1 (collect x) (fun vs s1=>s1.os=s.os/\vs.length<=sizeLine/\(∃(κ:KeyKind) (kd:SortKind),(∀s2:Shared,Ext s1.heap.objs.size s1 s2->Keys prog w s1.heap.objs.size s2 κ kd vs) /\
   ∀(out:Array Value) (h':Heap) (e:Nat),Out κ vs out->(∀b o,s1.heap.get? b=some o->h'.get? b=some o)->h'.get? s1.heap.objs.size=some (seqObj "list" out e)->Q (.ref s1.heap.objs.size) { s1 with heap:=h' })) E s) :
  wpAny (model prog w) A (call (.builtin "sorted") [x]) Q E s:=by
 refine Calls.call_function_entry kind_sorted plain_sorted entry_sorted (args_sorted1 _) ?_
 unfold Builtin.«sorted»
 refine wpAny_bind (m:=checkCount "sorted" 1 1 _) (wpAny_pure ?_)
 refine wpAny_bind (wpAny_mono hc (fun vs s1 ⟨eos,hz,κ,kd,K,q⟩=>?_) fun _ _ z=>z)
 refine wpAny_bind (wpAny_newList ?_)
 have hoL:(s1.heap.push (seqObj "list" vs.toArray 0)).get? s1.heap.objs.size=some (seqObj "list" vs.toArray 0):=Heap.get?_push_size _ rfl
 show wpAny _ _ _ _ _ { s1 with heap:=s1.heap.push (seqObj "list" vs.toArray 0) }
 have hE:Ext s1.heap.objs.size s1 { s1 with heap:=s1.heap.push (seqObj "list" vs.toArray 0) }:=fun b o _ e=>Heap.get?_push_of_some _ e
 refine wpAny_bind (wpAny_holding (wpAny_call_entry slot_list_sort ⟨_,hoL,rfl⟩ entry_list_sort (Ca (s:={ s1 with heap:=s1.heap.push (seqObj "list" vs.toArray 0) }) hoL hz (K _ hE) fun out ho=>⟨_,rfl,?_⟩) (args_list_sort _)))
 obtain⟨e,he⟩:=sortedHeap_at (h:=s1.heap.push (seqObj "list" vs.toArray 0)) (out:=out) hoL
 refine wpAny_pure ⟨_,rfl,q out _ e ho (fun b o eb=>?_) he⟩
 have hlt:=Heap.lt_size eb
 rw[sortedHeap_old (Nat.ne_of_lt hlt) (by rw[size_push'];exact Nat.lt_succ_of_lt hlt)]
 exact Heap.get?_push_of_some _ eb
theorem keys_strs{a:Addr}{vs:List Value}{ss:List Str}(hS:StrsAre vs ss):Keys prog w a s strKind oneType' vs:=by
 refine⟨fun A s' _=>⟨fun x y k l Q E hx hy q=>?_⟩,fun v hv=>?_,fun h2 A E s' Q _ q=>?_⟩
 ·rw[keyLt'_oneType]
  exact strKind_oneLt prog w A E s' x y k l hx hy q
 ·obtain⟨x,t,rfl⟩:=hS.all v hv
  exact⟨_,rfl⟩
 ·match vs,h2,hS with
  | v1::v2::r,_,hS =>
   rw[keyKind_strs hS]
   exact wpAny_pure q
noncomputable def pairLt(a b:List Nat×List Nat):Bool:=decide (a.1<b.1)||(decide (a.1=b.1)&&decide (a.2<b.2))
theorem pairLt_iff{a b:List Nat×List Nat}:pairLt a b=true↔a.1<b.1\/(a.1=b.1/\a.2<b.2):=by
 unfold pairLt
 simp
theorem tri(a b:List Nat):a<b\/a=b\/b<a:=by
 by_cases h:a<b
 ·exact .inl h
 ·by_cases h':b<a
  ·exact .inr (.inr h')
  ·exact .inr (.inl (List.le_antisymm (List.not_lt.mp h') (List.not_lt.mp h)))
noncomputable def Ln:List Value->Option (List Nat×List Nat)
 | [.str x _,.str y _]=>some (x.cps.toList,y.cps.toList)
 | _=>none
noncomputable def Ob(c:Value):Data->Option (List Nat×List Nat)
 | .seq xs _=>if c = .type "tuple" then Ln xs.toList else none
 | _=>none
noncomputable def pairOf(h:Heap):Value->Option (List Nat×List Nat)
 | .ref p=>(h.get? p).bind fun o=>Ob o.cls o.data
 | _=>none
@[reducible] noncomputable def pairKind(h:Heap):KeyKind where
 α:=List Nat×List Nat
 blt:=pairLt
 irrefl a:=by
  rw[Bool.eq_false_iff]
  intro z
  rcases pairLt_iff.mp z with z | ⟨_,z⟩
  ·exact List.lt_irrefl _ z
  ·exact List.lt_irrefl _ z
 trans a b c h1 h2:=by
  rw[pairLt_iff]at *
  rcases h1 with h1 | ⟨h1,h1'⟩
  ·rcases h2 with h2 | ⟨h2,_⟩
   ·exact .inl (List.lt_trans h1 h2)
   ·exact .inl (h2▸h1)
  ·rcases h2 with h2 | ⟨h2,h2'⟩
   ·exact .inl (h1▸h2)
   ·exact .inr ⟨h1.trans h2,List.lt_trans h1' h2'⟩
 negTrans a b c h:=by
  rw[pairLt_iff]at h
  simp only[pairLt_iff]
  rcases h with h | ⟨h,h'⟩
  ·rcases tri a.1 b.1 with q | q | q
   ·exact .inl (.inl q)
   ·exact .inr (.inl (q▸h))
   ·exact .inr (.inl (List.lt_trans q h))
  ·rcases tri a.1 b.1 with q | q | q
   ·exact .inl (.inl q)
   ·rcases tri a.2 b.2 with r | r | r
    ·exact .inl (.inr ⟨q,r⟩)
    ·exact .inr (.inr ⟨q▸h,r▸h'⟩)
    ·exact .inr (.inr ⟨q▸h,List.lt_trans r h'⟩)
   ·exact .inr (.inl (h▸q))
 total a b h1 h2:=by
  rw[Bool.eq_false_iff]at h1 h2
  rcases tri a.1 b.1 with q | q | q
  ·exact absurd (pairLt_iff.mpr (.inl q)) h1
  ·rcases tri a.2 b.2 with r | r | r
   ·exact absurd (pairLt_iff.mpr (.inr ⟨q,r⟩)) h1
   ·exact Prod.ext q r
   ·exact absurd (pairLt_iff.mpr (.inr ⟨q.symm,r⟩)) h2
  ·exact absurd (pairLt_iff.mpr (.inl q)) h2
 keyOf:=pairOf h
 dflt:=([],[])
noncomputable def PairAt(h:Heap)(v:Value)(x y:Str):Prop:=∃p o n t u,v = .ref p/\h.get? p=some o/\o.cls = .type "tuple"/\o.data = .seq #[.str x t,.str y u] n
theorem PairAt.key{h:Heap}{v:Value}{x y:Str}(z:PairAt h v x y):pairOf h v=some (x.cps.toList,y.cps.toList):=by
 obtain⟨p,o,n,t,u,rfl,e,c,d⟩:=z
 show(h.get? p).bind (fun o=>Ob o.cls o.data)=_
 rw[e]
 show Ob o.cls o.data=_
 rw[d,c]
 unfold Ob
 exact(if_pos rfl).trans rfl
theorem Vt{l:List Value}{k:List Nat×List Nat}(e:Ln l=some k):∃x t y u,l = [.str x t,.str y u]:=by
 match l,e with
 | [.str x t,.str y u],_=>exact⟨x,t,y,u,rfl⟩
theorem Ov{h:Heap}{v:Value}{k:List Nat×List Nat}(e:pairOf h v=some k):∃x y,PairAt h v x y:=by
 match v,e with
 | .ref p,e =>
  have e':(h.get? p).bind (fun o=>Ob o.cls o.data)=some k:=e
  obtain⟨o,ho,es⟩:=Option.bind_eq_some_iff.mp e'
  cases d:o.data with
  | seq xs n =>
   rw[d]at es
   have es':(if o.cls = .type "tuple" then Ln xs.toList else none)=some k:=es
   by_cases c:o.cls = .type "tuple"
   ·rw[if_pos c]at es'
    obtain⟨x,t,y,u,el⟩:=Vt es'
    refine⟨x,y,p,o,n,t,u,rfl,ho,c,?_⟩
    rw[d]
    have:xs = #[.str x t,.str y u]:=by rw[<-Array.toList_inj,el]
    rw[this]
   ·rw[if_neg c]at es';cases es'
  | _=>rw[d]at es;cases es
theorem Jd{h:Heap}{v:Value}{k:List Nat×List Nat}{x y:Str}(z:PairAt h v x y)(e:pairOf h v=some k):k =(x.cps.toList,y.cps.toList):=by
 rw[z.key]at e
 exact(Option.some.inj e).symm
theorem keys_pairs{a:Addr}{vs:List Value}{h0:Heap}(hv:∀v∈vs,∃x y,PairAt h0 v x y)(hk:∀b o,h0.get? b=some o->b≠a/\s.heap.get? b=some o) :
  Keys prog w a s (pairKind h0) (tuples' true) vs:=by
 refine⟨fun A s' hE=>⟨fun x y k l Q E hx hy q=>?_⟩,fun v hvm=>?_,fun h2 A E s' Q hE q=>?_⟩
 ·obtain⟨x1,x2,zx⟩:=Ov hx
  obtain⟨y1,y2,zy⟩:=Ov hy
  have ek:=Jd zx hx
  have el:=Jd zy hy
  subst ek el
  obtain⟨px,ox,nx,t1,u1,rfl,e1,_,d1⟩:=zx
  obtain⟨py,oy,ny,t2,u2,rfl,e2,_,d2⟩:=zy
  have f1:=hE _ _ (hk _ _ e1).1 (hk _ _ e1).2
  have f2:=hE _ _ (hk _ _ e2).1 (hk _ _ e2).2
  refine PySem.W.kat_lt f1 d1 f2 d2 ?_
  show PySem.W.KatLex prog w A true _ Q [(.str x1 t1,.str y1 t2),(.str x2 u1,.str y2 u2)] 0 s'
  refine PySem.W.kat_cons (wpAny_eqBool_str (PySem.W.kat_go (fun he=>?_) fun he=>?_))
  ·have he:x1=y1:=by simpa using he
   refine PySem.W.kat_yes (PySem.W.kat_cons (wpAny_eqBool_str (PySem.W.kat_go (fun he2=>?_) fun he2=>?_)))
   ·have he2:x2=y2:=by simpa using he2
    refine PySem.W.kat_yes (PySem.W.kat_nil ?_)
    have:pairLt (x1.cps.toList,x2.cps.toList) (y1.cps.toList,y2.cps.toList)=decide (2<2):=by
     rw[he,he2]
     exact(pairKind h0).irrefl (y1.cps.toList,y2.cps.toList)
    show Q (decide (2<2)) s'
    rw[<-this]
    exact q
   ·refine PySem.W.kat_no (PySem.W.kat_one _ _ (lt_str ?_))
    have:pairLt (x1.cps.toList,x2.cps.toList) (y1.cps.toList,y2.cps.toList)=decide (x2.cps.toList<y2.cps.toList):=by
     rw[he]
     unfold pairLt
     simp[List.lt_irrefl]
    show Q (decide (x2.cps.toList<y2.cps.toList)) s'
    rw[<-this]
    exact q
  ·have he:¬x1=y1:=by simpa using he
   refine PySem.W.kat_no (oneLt_str ?_)
   have hne:¬x1.cps.toList=y1.cps.toList:=fun z=>he (by cases x1;cases y1;simp at z;simp[z])
   have:pairLt (x1.cps.toList,x2.cps.toList) (y1.cps.toList,y2.cps.toList)=decide (x1.cps.toList<y1.cps.toList):=by
    unfold pairLt
    simp[hne]
   rw[<-this]
   exact q
 ·obtain⟨x,y,z⟩:=hv v hvm
  exact⟨_,z.key⟩
 ·have hT:∀(us:List Value),(∀v∈us,∃x y,PairAt h0 v x y)->∃fs,PySem.W.KatTups s'.heap us fs/\fs.length=us.length/\∀v∈fs,∃x t,v = .str x t:=by
   intro us
   induction us with
   | nil=>exact fun _=>⟨[],.nil,rfl,fun v hv=>by simp at hv⟩
   | cons v r ih =>
    intro hus
    obtain⟨fs,g1,g2,g3⟩:=ih fun u hu=>hus u (List.mem_cons_of_mem _ hu)
    obtain⟨x,y,p,o,n,t,u,rfl,e,c,d⟩:=hus v (List.mem_cons_self ..)
    refine⟨.str x t::fs,.cons (hE _ _ (hk _ _ e).1 (hk _ _ e).2) c d rfl g1,by simp[g2],fun z hz=>?_⟩
    rcases List.mem_cons.mp hz with rfl | hz
    ·exact⟨x,t,rfl⟩
    ·exact g3 z hz
  obtain⟨fs,g1,g2,g3⟩:=hT vs hv
  refine PySem.W.kat_kind (T:=.type "str") g1 (by omega) (fun v hv=>?_) (by rfl) q
  obtain⟨x,t,rfl⟩:=g3 v hv
  exact .now
end
end TS
set_option Elab.async false
namespace L2
open PySem PySem.Spec PyProof.Rows
noncomputable abbrev Key:=Sum Int Str
noncomputable def Dp:Key->Value->Bool
 | .inl k,v=>Value.isInt k v
 | .inr x,v=>Value.isStrOf x v
noncomputable def zBs(w:World):Key->Int
 | .inl k=>hashInt k
 | .inr x=>hashStr w x
theorem E7:∀{k:Key} {v:Value},Dp k v=true->(∃i t,k=Sum.inl i/\v=Value.int i t)\/(∃x t,k=Sum.inr x/\v=Value.str x t)
 | .inl i,v,h=>by
  obtain⟨t,e⟩:=Value.isInt_shape (k:=i) (v:=v) h
  exact .inl ⟨i,t,rfl,e⟩
 | .inr x,v,h=>by
  obtain⟨t,e⟩:=Value.isStrOf_shape (x:=x) (v:=v) h
  exact .inr ⟨x,t,rfl,e⟩
theorem Nh(i:Int)(t:Tok):Dp (.inl i) (.int i t)=true:=by simp[Dp,Value.isInt]
theorem X0(x:Str)(t:Tok):Dp (.inr x) (.str x t)=true:=by simp[Dp,Value.isStrOf]
theorem Vv(a b:Int):decide ((Sum.inl a:Key)=Sum.inl b) =(a == b):=by
 by_cases e:a=b
 ·subst e;simp
 ·have h:¬(Sum.inl a:Key)=Sum.inl b:=fun q=>e (Sum.inl.inj q)
  rw[decide_eq_false h]
  exact(beq_eq_false_iff_ne.mpr e).symm
theorem Xw(a b:Str):decide ((Sum.inr a:Key)=Sum.inr b)=decide (a=b):=by
 by_cases e:a=b
 ·subst e;simp
 ·have h:¬(Sum.inr a:Key)=Sum.inr b:=fun q=>e (Sum.inr.inj q)
  rw[decide_eq_false h,decide_eq_false e]
theorem Wx(a:Int)(b:Str):decide ((Sum.inl a:Key)=Sum.inr b)=false:=decide_eq_false (fun q=>nomatch q)
theorem Xn(a:Str)(b:Int):decide ((Sum.inr a:Key)=Sum.inl b)=false:=decide_eq_false (fun q=>nomatch q)
noncomputable def D8(prog:Program)(w:World):PySem.KeyKind prog w Key where
 is:=Dp
 hash:=zBs w
 inj:=fun v a b ha hb=>by
  rcases E7 ha with⟨i,t,rfl,rfl⟩ | ⟨x,t,rfl,rfl⟩
  ·rcases E7 hb with⟨j,u,rfl,e⟩ | ⟨y,u,rfl,e⟩
   ·injection e with e1 _;rw[e1]
   ·exact nomatch e
  ·rcases E7 hb with⟨j,u,rfl,e⟩ | ⟨y,u,rfl,e⟩
   ·exact nomatch e
   ·injection e with e1 _;rw[e1]
 byValue:=fun k v h=>by
  rcases E7 h with⟨i,t,rfl,rfl⟩ | ⟨x,t,rfl,rfl⟩<;>rfl
 pyHash:=fun hv h=>by
  rcases E7 hv with⟨i,t,rfl,rfl⟩ | ⟨x,t,rfl,rfl⟩
  ·exact wpAny_pyHash_int h
  ·exact wpAny_pyHash_str h
 eqBool:=fun hu hv h=>by
  rcases E7 hu with⟨i,t,rfl,rfl⟩ | ⟨x,t,rfl,rfl⟩
  ·rcases E7 hv with⟨j,u,rfl,rfl⟩ | ⟨y,u,rfl,rfl⟩
   ·rw[Vv]at h;exact wpAny_eqBool_int h
   ·rw[Wx]at h;exact SeqAt.EqAt.int_str i t y u _ _ _ _ h
  ·rcases E7 hv with⟨j,u,rfl,rfl⟩ | ⟨y,u,rfl,rfl⟩
   ·rw[Xn]at h;exact SeqAt.EqAt.str_int x t j u _ _ _ _ h
   ·rw[Xw]at h;exact wpAny_eqBool_str h
 «strs»:=fun k x t v h=>by
  rcases E7 h with⟨i,u,rfl,e⟩ | ⟨y,u,rfl,e⟩
  ·exact nomatch e
  ·injection e with e1 _
   subst e1
   cases v<;>rfl
theorem Hb(prog:Program)(w:World)(i:Int)(t:Tok):(D8 prog w).is (.inl i) (.int i t)=true:=Nh i t
theorem Hj(prog:Program)(w:World)(x:Str)(t:Tok):(D8 prog w).is (.inr x) (.str x t)=true:=X0 x t
inductive V where
 | non | bl (b:Bool) | int (i:Int) | str (x:Str) | byt (b:Array UInt8) | flt (b:UInt64) | ref (a:Addr) | ty (n:String)
 deriving DecidableEq
noncomputable def RelV:V->Value->Prop
 | .non,u=>u=Value.none
 | .bl b,u=>u=Value.bool b
 | .int i,u=>∃t,u=Value.int i t
 | .str x,u=>∃t,u=Value.str x t
 | .byt b,u=>∃t,u=Value.bytes b t
 | .flt b,u=>∃t,u=Value.float b t
 | .ref a,u=>u=Value.ref a
 | .ty n,u=>u=Value.type n
noncomputable abbrev Vals:List V->List Value->Prop:=Paired RelV
theorem Vals.length{xs:List V}{us:List Value}(r:Vals xs us):xs.length=us.length:=Paired.length r
theorem Vals.get:∀{xs:List V} {us:List Value} {i:Nat} {x:V},Vals xs us->xs[i]?=some x->∃u,us[i]?=some u/\RelV x u
 | _,_,_,_,.nil,e=>by simp at e
 | _,_,0,_,.cons r _,e=>by simp at e;subst e;exact⟨_,rfl,r⟩
 | _,_,i+1,x,.cons _ t,e=>by
  obtain⟨u,h1,h2⟩:=Vals.get (i:=i) (x:=x) t (by simpa using e)
  exact⟨u,by simpa using h1,h2⟩
theorem Vals.set{x:V}{u:Value}(r:RelV x u):∀{xs:List V} {us:List Value} (i:Nat),Vals xs us->Vals (xs.set i x) (us.set i u)
 | _,_,_,.nil=>.nil
 | _,_,0,.cons _ t=>.cons r t
 | _,_,i+1,.cons q t=>.cons q (Vals.set r i t)
theorem Vals.append:∀{xs ys:List V} {us ws:List Value},Vals xs us->Vals ys ws->Vals (xs++ys) (us++ws)
 | _,_,_,_,.nil,s=>s
 | _,_,_,_,.cons r t,s=>.cons r (Vals.append t s)
theorem Vals.take:∀{xs:List V} {us:List Value} (n:Nat),Vals xs us->Vals (xs.take n) (us.take n)
 | _,_,0,_=>.nil
 | _,_,_+1,.nil=>.nil
 | _,_,n+1,.cons r t=>.cons r (Vals.take n t)
theorem Vals.drop:∀{xs:List V} {us:List Value} (n:Nat),Vals xs us->Vals (xs.drop n) (us.drop n)
 | _,_,0,r=>r
 | _,_,_+1,.nil=>.nil
 | _,_,n+1,.cons _ t=>Vals.drop n t
noncomputable def RelO:Option V->Option Value->Prop
 | some v,some u=>RelV v u
 | none,none=>True
 | _,_=>False
noncomputable def KV{κ:Type}:List (κ×V)->List (κ×Value)->Prop:=Paired fun(p:κ×V) (q:κ×Value)=>p.1=q.1/\RelV p.2 q.2
noncomputable def kV:Key->V
 | .inl i=>.int i
 | .inr x=>.str x
inductive HO where
 | lst (xs:List V)
 | tup (xs:List V)
 | dK (kvs:List (Key×V)) | dT (kvs:List (List Key×V))
 | set (S:Int->Bool) (n:Nat)
 | ins (C dx:Addr) (fs:List (Str×V))
 | own (x:Addr)
 | xd (fs:List (Str×V))
 | met (f x:Addr)
 | rng (lo hi:Int)
 | frz (o:Obj) (u:HO)
 | tbl (ps:Array Value)
 | ext (φ:Heap->Prop)
set_option genInjectivity false
noncomputable abbrev Hp:=Addr->Option HO
noncomputable def upd(H:Hp)(a:Addr)(o:HO):Hp:=fun b=>if b=a then some o else H b
theorem A9{H:Hp}{a:Addr}{o:HO}:upd H a o a=some o:=by unfold upd;rw[if_pos rfl]
theorem B6{H:Hp}{a b:Addr}{o:HO}(h:b≠a):upd H a o b=H b:=by unfold upd;rw[if_neg h]
theorem T9{H:Hp}{a b:Addr}{o u:HO}(h:H a=some o)(h':H b=some u)(d:o≠u):a≠b:=by
 intro e;subst e;rw[h]at h';exact d (Option.some.inj h')
theorem B1{H:Hp}{a b:Addr}{o:HO}(h:H a=some o)(h':H b=none):a≠b:=by
 intro e;subst e;rw[h]at h';cases h'
section
variable(P:Program)(w:World)
noncomputable def ObjOk(H:Hp)(h:Heap)(a:Addr):HO->Prop
 | .lst xs=>xs.length<=sizeLine/\∃(its:List Value) (n:Nat),Vals xs its/\h.get? a=some { cls:=.type "list",data:=.seq its.toArray n }
 | .tup xs=>xs.length<=sizeLine/\∃its:List Value,Vals xs its/\IsTup h a its.toArray
 | .dK kvs=>kvs.length<=sizeLine/\(a == sysModules)=false/\∃vs,KV kvs vs/\h.DictOf (D8 P w) a vs
 | .dT kvs=>kvs.length<=sizeLine/\(a == sysModules)=false/\∃xs:List (List Key×Addr×Value),
   Paired (fun(p:List Key×V) (q:List Key×Addr×Value)=>p.1=q.1/\H q.2.1=some (.tup (p.1.map kV))/\RelV p.2 q.2.2) kvs xs /\
   ∃o es ep,h.get? a=some o/\o.ExactDict/\o.data = .dict es ep/\es.toList=xs.map (entryOfKey (tupleKind (D8 P w)))/\(xs.map (·.1)).Nodup
 | .set S n=>h.SetOf (intKind P w) a S n
 | .ins C dx fs=>H dx=some (.own a)/\fs.length<=1000/\dx≠a/\h.get? a=some (PySem.W.instObj C dx) /\
   ∃mA,h.Ns1 dx mA/\(∀f,RelO (fs.lookup f) (mA f))/\PySem.Within mA (fs.map (·.1))
 | .own _=>∃o,h.get? a=some o
 | .xd fs=>∃mA,h.Ns1 a mA/\∀f,RelO (fs.lookup f) (mA f)
 | .rng lo hi=>∃t u v,h.get? a=some { cls:=.type "range",data:=.fields #[.int lo t,.int hi u,.int 1 v] }
 | .frz o u=>h.get? a=some o/\ObjOk H h a u
 | .tbl ps=>h.get? a=some { cls:=.none,data:=.fields ps }
 | .met f x=>h.get? a=some (PySem.W.methodObj (.ref f) (.ref x))
 | .ext φ=>φ h/\(∃o,h.get? a=some o)/\∀h1 h2:Heap,φ h1->(∀o,h1.get? a=some o->h2.get? a=some o)->φ h2
noncomputable def HOk(H:Hp)(h:Heap):Prop:=∀a o,H a=some o->ObjOk P w H h a o
end
section
variable{P:Program}{w:World}{H H':Hp}{h h':Heap}{a:Addr}{o:HO}
theorem ObjOk.lt(x:ObjOk P w H h a o):a<h.objs.size:=by
 cases o with
 | lst xs=>obtain⟨_,_,_,_,e⟩:=x;exact Heap.lt_size e
 | tup xs=>obtain⟨_,_,_,p⟩:=x;exact p.lt
 | dK kvs=>obtain⟨_,_,_,_,o,_,_,e,_⟩:=x;exact Heap.lt_size e
 | dT kvs=>obtain⟨_,_,_,_,o,_,_,e,_⟩:=x;exact Heap.lt_size e
 | set S n=>obtain⟨o,_,_,_,e,_⟩:=x;exact Heap.lt_size e
 | ins C dx fs=>obtain⟨_,_,_,e,_⟩:=x;exact Heap.lt_size e
 | own y=>obtain⟨_,e⟩:=x;exact Heap.lt_size e
 | xd fs=>obtain⟨_,⟨_,_,_,e,_⟩,_⟩:=x;exact Heap.lt_size e
 | rng lo hi=>obtain⟨_,_,_,e⟩:=x;exact Heap.lt_size e
 | frz ob u=>obtain⟨e,_⟩:=x;exact Heap.lt_size e
 | tbl ps=>exact Heap.lt_size (show h.get? a=some _ from x)
 | met f y=>exact Heap.lt_size (show h.get? a=some _ from x)
 | ext φ=>obtain⟨_,⟨_,e⟩,_⟩:=x;exact Heap.lt_size e
theorem Paired.mapP{α β:Type}{F G:α->β->Prop}:∀{l₁:List α} {l₂:List β},Paired F l₁ l₂->(∀a b,F a b->G a b)->Paired G l₁ l₂
 | _,_,.nil,_=>.nil
 | _,_,.cons r t,f=>.cons (f _ _ r) (Paired.mapP t f)
theorem ObjOk.stay(x:ObjOk P w H h a o)(k:∀b u,(b=a\/H b=some (.own a))->h.get? b=some u->h'.get? b=some u)
  (ho:∀b,H b=some (.own a)->H' b=some (.own a)) (ht:∀b xs,H b=some (.tup xs)->H' b=some (.tup xs)):ObjOk P w H' h' a o:=by
 induction o with
 | lst xs=>obtain⟨z,its,n,r,e⟩:=x;exact⟨z,its,n,r,k _ _ (.inl rfl) e⟩
 | tup xs=>obtain⟨z,its,r,ob,e,c⟩:=x;exact⟨z,its,r,ob,k _ _ (.inl rfl) e,c⟩
 | dK kvs=>obtain⟨z,y,vs,r,ob,es,ep,e,c⟩:=x;exact⟨z,y,vs,r,ob,es,ep,k _ _ (.inl rfl) e,c⟩
 | dT kvs =>
  obtain⟨z,y,xs,r,ob,es,ep,e,c⟩:=x
  exact⟨z,y,xs,Paired.mapP r fun p q z=>⟨z.1,ht _ _ z.2.1,z.2.2⟩,ob,es,ep,k _ _ (.inl rfl) e,c⟩
 | set S n=>obtain⟨ob,es,ep,t,e,c⟩:=x;exact⟨ob,es,ep,t,k _ _ (.inl rfl) e,c⟩
 | ins C dx fs =>
  obtain⟨d,z,ne,e,mA,⟨od,es,ep,e2,c⟩,r⟩:=x
  exact⟨ho _ d,z,ne,k _ _ (.inl rfl) e,mA,⟨od,es,ep,k _ _ (.inr d) e2,c⟩,r⟩
 | own y=>obtain⟨ob,e⟩:=x;exact⟨ob,k _ _ (.inl rfl) e⟩
 | xd fs=>obtain⟨mA,⟨od,es,ep,e,c⟩,r⟩:=x;exact⟨mA,⟨od,es,ep,k _ _ (.inl rfl) e,c⟩,r⟩
 | rng lo hi=>obtain⟨t,u,v,e⟩:=x;exact⟨t,u,v,k _ _ (.inl rfl) e⟩
 | frz ob u ih=>obtain⟨e,q⟩:=x;exact⟨k _ _ (.inl rfl) e,ih q⟩
 | tbl ps =>
  have e:h.get? a=some { cls:=.none,data:=.fields ps }:=x
  show h'.get? a=some { cls:=.none,data:=.fields ps }
  exact k a _ (.inl rfl) e
 | met f y =>
  have e:h.get? a=some (PySem.W.methodObj (.ref f) (.ref y)):=x
  show h'.get? a=some (PySem.W.methodObj (.ref f) (.ref y))
  exact k a _ (.inl rfl) e
 | ext φ=>obtain⟨p,⟨o,e⟩,st⟩:=x;exact⟨st _ _ p fun o q=>k _ _ (.inl rfl) q,⟨o,k _ _ (.inl rfl) e⟩,st⟩
theorem HOk.lt(x:HOk P w H h)(e:H a=some o):a<h.objs.size:=(x a o e).lt
theorem HOk.fresh(x:HOk P w H h)(e:h.objs.size<=a):H a=none:=by
 cases q:H a with
 | none=>rfl
 | some u=>exact absurd (Nat.lt_of_lt_of_le (x.lt q) e) (Nat.lt_irrefl _)
theorem HOk.kept(x:HOk P w H h)(k:∀b u,h.get? b=some u->h'.get? b=some u):HOk P w H h':=fun a o e =>
 (x a o e).stay (fun b u _ q=>k b u q) (fun _ q=>q) fun _ _ q=>q
theorem HOk.laid(x:HOk P w H h)(k:∀b u,h.get? b=some u->h'.get? b=some u)(hp:h.objs.size<=a)(new:ObjOk P w (upd H a o) h' a o):HOk P w (upd H a o) h':=fun b u e=>by
 have hn:=x.fresh hp
 by_cases hb:b=a
 ·subst hb;rw[A9]at e;cases e;exact new
 ·rw[B6 hb]at e
  exact(x b u e).stay (fun c v _ q=>k c v q) (fun c q=>by rw[B6 (B1 q hn)];exact q) fun c xs q=>by rw[B6 (B1 q hn)];exact q
end
noncomputable def Rd(H:Hp)(a:Addr)(u:HO):Prop:=H a=some u\/∃o,H a=some (.frz o u)
theorem Rd.ok{P:Program}{w:World}{H:Hp}{h:Heap}{a:Addr}{u:HO}(r:Rd H a u)(x:HOk P w H h):ObjOk P w H h a u:=by
 rcases r with r | ⟨o,r⟩
 ·exact x a u r
 ·obtain⟨_,q⟩:=x a _ r
  exact q
noncomputable def Mut:Option HO->Prop
 | some (.lst _)=>True
 | some (.dK _)=>True
 | some (.dT _)=>True
 | some (.set _ _)=>True
 | some (.ins _ _ _)=>True
 | some (.ext _)=>True
 | _=>False
section
variable{P:Program}{w:World}{H:Hp}{h h':Heap}{x e:Addr}{o':HO}
theorem HOk.write(ok:HOk P w H h)(mu:Mut (H x))(he:e=x\/H e=some (.own x))(k:∀b u,b≠e->h.get? b=some u->h'.get? b=some u)(heo:∃u,h'.get? e=some u)
  (new:ObjOk P w (upd H x o') h' x o'):HOk P w (upd H x o') h':=fun b u q=>by
 have nown:∀c y,H c=some (.own y)->c≠x:=fun c y r z=>by subst z;rw[r]at mu;exact mu
 have ntup:∀c xs,H c=some (.tup xs)->c≠x:=fun c xs r z=>by subst z;rw[r]at mu;exact mu
 by_cases hb:b=x
 ·subst hb;rw[A9]at q;cases q;exact new
 ·rw[B6 hb]at q
  by_cases hbe:b=e
  ·have q':H b=some (.own x):=by
    rcases he with z | z
    ·exact absurd (hbe.trans z) hb
    ·rw[hbe];exact z
   rw[q]at q';cases q'
   obtain⟨v,hv⟩:=heo
   exact⟨v,by rw[hbe];exact hv⟩
  ·refine(ok b u q).stay (fun c v hc r=>k c v ?_ r) (fun c r=>by rw[B6 (nown c b r)];exact r) fun c xs r=>by rw[B6 (ntup c xs r)];exact r
   rcases hc with rfl | hc
   ·exact hbe
   ·rintro rfl
    rcases he with z | z
    ·exact nown c b hc z
    ·rw[hc]at z;cases z;exact hb rfl
end
structure Un(fs ex:List Addr)(H H':Hp)(h h':Heap):Prop where
 keep:∀b o,h.get? b=some o->H b=none->b∉fs->b∉ex->h'.get? b=some o
 slot:∀b o,h.get? b=some o->H b=none->b∈fs->b∉ex->∃sl,h'.get? b=some { o with slots:=sl }
 free:∀b o,h.get? b=some o->H b=none->b∉ex->H' b=none
 there:∀b o,h.get? b=some o->b∉ex->∃o',h'.get? b=some o'
 tups:∀b xs,H b=some (.tup xs)->H' b=some (.tup xs)
 frzs:∀b o u,H b=some (.frz o u)->H' b=some (.frz o u)
 tbls:∀b ps,H b=some (.tbl ps)->∃more,H' b=some (.tbl (ps++more))
section
variable{fs fs' ex ex':List Addr}{H H1 H2:Hp}{h h1 h2 h':Heap}{a x e:Addr}{o:HO}
theorem Un.any(u:Un fs ex H H1 h h1){b:Addr}{ob:Obj}(q:h.get? b=some ob)(n:H b=none)(hx:b∉ex):∃sl,h1.get? b=some { ob with slots:=sl }:=by
 by_cases hb:b∈fs
 ·exact u.slot b ob q n hb hx
 ·exact⟨ob.slots,u.keep b ob q n hb hx⟩
theorem Un.kept(k:∀b u,h.get? b=some u->h'.get? b=some u):Un fs ex H H h h' :=
 ⟨fun b ob q _ _ _=>k b ob q,fun b ob q _ _ _=>⟨ob.slots,k b ob q⟩,fun _ _ _ n _=>n,fun b ob q _=>⟨ob,k b ob q⟩,fun _ _ q=>q,fun _ _ _ q=>q,fun _ ps q=>⟨#[],by rw[q];simp⟩⟩
theorem Un.refl:Un fs ex H H h h:=Un.kept fun _ _ q=>q
theorem Un.laid(k:∀b u,h.get? b=some u->h'.get? b=some u)(hp:h.objs.size<=a)(hn:H a=none):Un fs ex H (upd H a o) h h' where
 keep:=fun b u q _ _ _=>k b u q
 slot:=fun b u q _ _ _=>⟨u.slots,k b u q⟩
 free:=fun b u q n _=>by rw[B6 (Nat.ne_of_lt (Nat.lt_of_lt_of_le (Heap.lt_size q) hp))];exact n
 there:=fun b u q _=>⟨u,k b u q⟩
 tups:=fun b xs q=>by rw[B6 (B1 q hn)];exact q
 frzs:=fun b u xs q=>by rw[B6 (B1 q hn)];exact q
 tbls:=fun b ps q=>⟨#[],by rw[B6 (B1 q hn),q];simp⟩
theorem Un.write(mu:Mut (H x))(he:e=x\/H e=some (.own x))(k:∀b u,b≠e->h.get? b=some u->h'.get? b=some u)(heo:∃u,h'.get? e=some u):Un fs ex H (upd H x o) h h':=by
 have hx:∀b,H b=none->b≠x:=fun b n z=>by subst z;rw[n]at mu;exact mu
 have hb:∀b,H b=none->b≠e:=fun b n z=>by
  subst z
  rcases he with r | r
  ·exact hx b n r
  ·rw[n]at r;cases r
 have hm:∀b u,H b=some u->¬Mut (some u)->b≠x:=fun b u q nm z=>by subst z;rw[q]at mu;exact nm mu
 refine⟨fun b u q n _ _=>k b u (hb b n) q,fun b u q n _ _=>⟨u.slots,k b u (hb b n) q⟩,fun b u q n _=>by rw[B6 (hx b n)];exact n,fun b u q _=>?_,
  fun b xs q=>by rw[B6 (hm b _ q fun z=>z)];exact q,fun b u xs q=>by rw[B6 (hm b _ q fun z=>z)];exact q,fun b ps q=>⟨#[],by rw[B6 (hm b _ q fun z=>z),q];simp⟩⟩
 by_cases hbe:b=e
 ·subst hbe;exact heo
 ·exact⟨u,k b u hbe q⟩
end
noncomputable def trk(h:Heap)(H:Hp):List Addr:=(List.range h.objs.size).filter fun a=>(H a).isSome
noncomputable def Qz(h:Heap)(H:Hp):Heap:=PySem.W.hideAll h (trk h H)
theorem Nc(h:Heap)(H:Hp):(Qz h H).objs.size=h.objs.size:=PySem.W.hideAll_size _ _
theorem Qb{h:Heap}{H:Hp}{b:Addr}{o:Obj}(e:h.get? b=some o)(n:H b=none):(Qz h H).get? b=some o :=
 PySem.W.hideAll_get _ e fun hm=>by
  have q:(H b).isSome=true:=(List.mem_filter.mp hm).2
  rw[n]at q;simp at q
theorem Vc{h:Heap}{H:Hp}{b:Addr}{o:Obj}(e:(Qz h H).get? b=some o):h.get? b=some o/\H b=none:=by
 have e':h.get? b=some o:=PySem.W.of_hideAll (trk h H) e
 refine⟨e',?_⟩
 cases q:H b with
 | none=>rfl
 | some x =>
  have hm:b∈trk h H:=List.mem_filter.mpr ⟨List.mem_range.mpr (Heap.lt_size e'),by simp[q]⟩
  have z:(Qz h H).get? b=none:=PySem.W.hideAll_none (trk h H) hm
  rw[z]at e;cases e
structure Mod(K:PySem.W.Frag)(mg:Str->Option Value)(base:Heap):Prop where
 kin:K.In base
 glob:base.Ns mainGlobals mg
 blt:∃mb,base.Ns builtinsNs mb/\∀x:Str,x≠ "__name__"->mb x=bootBuiltins x
 nolimit:base.NoLimit
structure Cx where
 prog:Program
 w:World
 K:PySem.W.Frag
 mg:Str->Option Value
 base:Heap
 A:Around
 N:List Str
 s₀:Shared
 H₀:Hp
 env:Env
 outer:List Env
 stack:List Env
 ex:List Addr
 fn:Str->Bool
 calm:Bool
 pn:List (Addr×Obj)
 xe:Value->Shared->Prop
noncomputable def frs(l:List Env):List Addr:=l.filterMap (·.frame)
noncomputable abbrev Cx.fs(X:Cx):List Addr:=frs X.outer
noncomputable def Vis(sc:Scope)(x:Str):Prop:=sc.names.lookup x=some .local\/sc.names.lookup x=some .cell\/sc.names.lookup x=some .free
noncomputable def Loc(sc:Scope)(x:Str):Prop:=sc.names.lookup x=some .local\/sc.names.lookup x=some .cell
noncomputable def zBy(env:Env)(h:Heap)(m:Str->Option Value)(x:Str)(u:Value):Prop :=
 (env.kindOf x=some .local/\m x=some u)\/((env.kindOf x=some .cell\/env.kindOf x=some .free)/\∃c,env.cells.lookup x=some c/\h.IsCell c (some u))
structure Cx.Ok(X:Cx):Prop where
 mod:Mod X.K X.mg X.base
 kind:X.env.scope.kind = .function
 glob:X.env.globals=mainGlobals
 blt:X.env.builtins=builtinsNs
 above:X.s₀.heap.objs.size<=X.env.locals
 inj:∀x y c,X.env.cells.lookup x=some c->X.env.cells.lookup y=some c->x=y
 has:∀x,(X.env.kindOf x=some .cell\/X.env.kindOf x=some .free)->∃c,X.env.cells.lookup x=some c
 cab:∀x c,X.fn x=true->X.env.cells.lookup x=some c->X.s₀.heap.objs.size<=c
 hd:X.calm=true->X.A.handled=none
 frames:X.A.frames=some X.stack
 stk:X.stack=X.outer\/(X.stack=X.env::X.outer/\X.env.frame=some X.env.locals)
 exf:∀b∈X.ex,b≠X.env.locals/\∀x c,X.env.cells.lookup x=some c->c≠b
 bs:∀b o,X.base.get? b=some o->X.s₀.heap.get? b=some o/\X.H₀ b=none
 bsz:X.base.objs.size<=X.s₀.heap.objs.size
 noex:∀b o,X.base.get? b=some o->b∉X.ex
 exfs:∀b∈X.ex,b∉X.fs
 funs:X.s₀.heap.FunFrames X.base X.outer
 frf:∀b∈X.fs,X.H₀ b=none
structure Inv(X:Cx)(pins:List (Addr×Obj))(σ:List (Option V))(H:Hp)(s:Shared):Prop where
 ok:X.Ok
 os:s.os=X.s₀.os
 bare:AllBare s.gens
 base:Un X.fs X.ex X.H₀ H X.s₀.heap s.heap
 loc:∃m,s.heap.Ns X.env.locals m/\∀(i:Nat) (x:Str) (v:V),X.N[i]?=some x->σ[i]?=some (some v)->Vis X.env.scope x->∃u,RelV v u/\zBy X.env s.heap m x u
 cell:∀x c,X.env.cells.lookup x=some c->∃v,s.heap.IsCell c v
 free:H X.env.locals=none
 freeC:∀x c,X.env.cells.lookup x=some c->H c=none
 pin:∀p∈X.pn++pins,s.heap.get? p.1=some p.2/\H p.1=none/\p.1≠X.env.locals/\p.1∉X.fs/\∀v,p.2.data≠ .cell v
 hok:HOk X.prog X.w H s.heap
 len:σ.length=X.N.length
section
variable{X:Cx}{pins:List (Addr×Obj)}{σ:List (Option V)}{H H':Hp}{s:Shared}{h':Heap}
theorem Cx.Ok.nofr(ok:X.Ok){b:Addr}{o:Obj}(e:X.base.get? b=some o):b∉X.fs:=fun hb=>by
 have:=(ok.funs.mem hb).1
 rw[e]at this;cases this
theorem Inv.bs(I:Inv X pins σ H s):∀b o,X.base.get? b=some o->s.heap.get? b=some o/\H b=none:=fun b o e =>
 ⟨I.base.keep b o (I.ok.bs b o e).1 (I.ok.bs b o e).2 (I.ok.nofr e) (I.ok.noex b o e),I.base.free b o (I.ok.bs b o e).1 (I.ok.bs b o e).2 (I.ok.noex b o e)⟩
theorem Inv.bk(I:Inv X pins σ H s):∀b o,X.base.get? b=some o->s.heap.get? b=some o:=fun b o e=>(I.bs b o e).1
theorem Inv.mod(I:Inv X pins σ H s):Mod X.K X.mg X.base:=I.ok.mod
theorem Inv.kIn(I:Inv X pins σ H s):X.K.In s.heap:=I.ok.mod.kin.keeps I.bk
theorem Inv.lt(I:Inv X pins σ H s):X.env.locals<s.heap.objs.size:=let⟨_,hn,_⟩:=I.loc;hn.lt
theorem Inv.sz(I:Inv X pins σ H s):X.s₀.heap.objs.size<=s.heap.objs.size:=Nat.le_trans I.ok.above (Nat.le_of_lt I.lt)
theorem Inv.nofs(I:Inv X pins σ H s){a:Addr}(h:s.heap.objs.size<=a):a∉X.fs:=fun hb=>by
 obtain⟨_,o,ho,_⟩:=I.ok.funs.mem hb
 exact absurd (Nat.lt_of_lt_of_le (Heap.lt_size ho) (Nat.le_trans I.sz h)) (Nat.lt_irrefl _)
theorem Inv.cne(I:Inv X pins σ H s):∀x c,X.env.cells.lookup x=some c->c≠X.env.locals:=fun x c e z=>by
 obtain⟨v,o,ho,hd⟩:=I.cell x c e
 obtain⟨m,⟨o',es,ep,ho',hd',_⟩,_⟩:=I.loc
 rw[z,ho']at ho;cases ho;rw[hd']at hd;cases hd
theorem Inv.funs(I:Inv X pins σ H s):s.heap.FunFrames X.base X.outer:=by
 have all:∀(l:List Env),(∀b∈frs l,b∈X.fs)->X.s₀.heap.FunFrames X.base l->s.heap.FunFrames X.base l:=by
  intro l
  induction l with
  | nil=>intro _ _;trivial
  | cons env r ih =>
   intro hs hl
   obtain⟨hk,⟨L,o,hf,hn,ho,hd⟩,hr⟩:=hl
   have hL:L∈X.fs:=hs L (by unfold frs;rw[List.filterMap_cons,hf];exact List.mem_cons_self)
   obtain⟨sl,e⟩:=I.base.slot L o ho (I.ok.frf L hL) hL fun z=>I.ok.exfs L z hL
   exact⟨hk,⟨L,_,hf,hn,e,hd⟩,ih (fun b hb=>hs b (by unfold frs;rw[List.filterMap_cons,hf];exact List.mem_cons_of_mem _ hb)) hr⟩
 exact all X.outer (fun _ hb=>hb) I.ok.funs
theorem Inv.stack(I:Inv X pins σ H s):s.heap.FunFrames X.base X.stack:=by
 rcases I.ok.stk with e | ⟨e,hf⟩
 ·rw[e];exact I.funs
 ·rw[e]
  obtain⟨m,hn,_⟩:=I.loc
  refine .cons (by rw[I.ok.kind];decide) hf hn ?_ I.funs
  exact Heap.get?_none_of_le (Nat.le_trans I.ok.bsz I.ok.above)
theorem Inv.stkSub(I:Inv X pins σ H s):∀b∈frs X.stack,b∈X.env.locals::X.fs:=fun b hb=>by
 rcases I.ok.stk with e | ⟨e,hf⟩
 ·rw[e]at hb;exact List.mem_cons_of_mem _ hb
 ·rw[e]at hb
  unfold frs at hb
  rw[List.filterMap_cons,hf]at hb
  exact hb
theorem Inv.stkFree(I:Inv X pins σ H s):∀b∈frs X.stack,H b=none:=fun b hb=>by
 rcases List.mem_cons.mp (I.stkSub b hb)with e | hb
 ·rw[e];exact I.free
 ·obtain⟨_,o,ho,_⟩:=I.ok.funs.mem hb
  exact I.base.free b o ho (I.ok.frf b hb) fun z=>I.ok.exfs b z hb
theorem Inv.step{g':Array GenState}{t':Nat}{d':Drawn}{ch:List Addr}(I:Inv X pins σ H s)
  (hch:∀b∈ch,(b∈X.ex\/X.s₀.heap.objs.size<=b)/\b≠X.env.locals/\(∀x c,X.env.cells.lookup x=some c->c≠b)/\∀p∈X.pn++pins,p.1≠b)
  (keep:∀b o,b≠X.env.locals->b∉X.fs->b∉ch->s.heap.get? b=some o->H b=none->h'.get? b=some o)
  (slot:∀b o,b≠X.env.locals->b∈X.fs->b∉ch->s.heap.get? b=some o->H b=none->∃sl,h'.get? b=some { o with slots:=sl }) (free:∀b o,b∉ch->s.heap.get? b=some o->H b=none->H' b=none)
  (there:∀b o,b∉ch->s.heap.get? b=some o->∃o',h'.get? b=some o')
  (tups:∀b xs,H b=some (.tup xs)->H' b=some (.tup xs)) (frzs:∀b o u,H b=some (.frz o u)->H' b=some (.frz o u)) (tbls:∀b ps,H b=some (.tbl ps)->∃more,H' b=some (.tbl (ps++more)))
  (ns:∀m,s.heap.Ns X.env.locals m->h'.Ns X.env.locals m) (hok:HOk X.prog X.w H' h') (hg:AllBare g') :
  Inv X pins σ H' { s with heap:=h',gens:=g',drawn:=d',toks:=t' }:=by
 have neL:∀b o,X.s₀.heap.get? b=some o->b≠X.env.locals:=fun b o e=>Nat.ne_of_lt (Nat.lt_of_lt_of_le (Heap.lt_size e) I.ok.above)
 have neC:∀b o,X.s₀.heap.get? b=some o->b∉X.ex->b∉ch:=fun b o e hx hb=>by
  rcases(hch b hb).1 with z | z
  ·exact hx z
  ·exact absurd (Nat.lt_of_lt_of_le (Heap.lt_size e) z) (Nat.lt_irrefl _)
 have cellK:∀x c,X.env.cells.lookup x=some c->∀v,s.heap.IsCell c v->h'.IsCell c v:=fun x c e v ⟨o,ho,hd⟩=>by
  have nch:c∉ch:=fun z=>(hch c z).2.2.1 x c e rfl
  by_cases hc:c∈X.fs
  ·obtain⟨sl,q⟩:=slot c o (I.cne x c e) hc nch ho (I.freeC x c e)
   exact⟨_,q,hd⟩
  ·exact⟨o,keep c o (I.cne x c e) hc nch ho (I.freeC x c e),hd⟩
 refine⟨I.ok,I.os,hg,⟨fun b o e n hb hx=>?_,fun b o e n hb hx=>?_,fun b o e n hx=>?_,fun b o e hx=>?_,fun b xs e=>tups b xs (I.base.tups b xs e),fun b o xs e=>frzs b o xs (I.base.frzs b o xs e),fun b ps e=>?_⟩,?_,fun x c e=>?_,?_,fun x c e=>?_,fun p hp=>?_,hok,I.len⟩
 ·exact keep b o (neL b o e) hb (neC b o e hx) (I.base.keep b o e n hb hx) (I.base.free b o e n hx)
 ·obtain⟨sl,e1⟩:=I.base.slot b o e n hb hx
  obtain⟨sl',e2⟩:=slot b _ (neL b o e) hb (neC b o e hx) e1 (I.base.free b o e n hx)
  exact⟨sl',e2⟩
 ·obtain⟨o',e1⟩:=I.base.there b o e hx
  exact free b o' (neC b o e hx) e1 (I.base.free b o e n hx)
 ·obtain⟨o',e1⟩:=I.base.there b o e hx
  exact there b o' (neC b o e hx) e1
 ·obtain⟨m1,e1⟩:=I.base.tbls b ps e
  obtain⟨m2,e2⟩:=tbls b _ e1
  exact⟨m1++m2,by rw[e2,Array.append_assoc]⟩
 ·obtain⟨m,hn,hl⟩:=I.loc
  refine⟨m,ns m hn,fun i x v e1 e2 e3=>?_⟩
  obtain⟨u,r,l⟩:=hl i x v e1 e2 e3
  refine⟨u,r,?_⟩
  rcases l with l | ⟨k,c,e,z⟩
  ·exact .inl l
  ·exact .inr ⟨k,c,e,cellK x c e _ z⟩
 ·obtain⟨v,z⟩:=I.cell x c e
  exact⟨v,cellK x c e v z⟩
 ·obtain⟨m,⟨o,_,_,ho,_⟩,_⟩:=I.loc
  exact free _ o (fun z=>(hch _ z).2.1 rfl) ho I.free
 ·obtain⟨v,o,ho,hd⟩:=I.cell x c e
  exact free c o (fun z=>(hch c z).2.2.1 x c e rfl) ho (I.freeC x c e)
 ·obtain⟨e,n,ne,nf,d⟩:=I.pin p hp
  have nch:p.1∉ch:=fun z=>(hch p.1 z).2.2.2 p hp rfl
  exact⟨keep p.1 p.2 ne nf nch e n,free p.1 p.2 nch e n,ne,nf,d⟩
theorem Inv.un{t':Nat}(I:Inv X pins σ H s)(u:Un X.fs [] H H' s.heap h')(hok:HOk X.prog X.w H' h'):Inv X pins σ H' { s with heap:=h',toks:=t' }:=by
 obtain⟨m,⟨o,es,ep,ho,r⟩,_⟩:=id I.loc
 obtain⟨sl,hL⟩:=u.any ho I.free (by simp)
 exact I.step (g':=s.gens) (d':=s.drawn) (ch:=[]) (fun _ z=>nomatch z) (fun b o _ hb _ e n=>u.keep b o e n hb (by simp)) (fun b o _ hb _ e n=>u.slot b o e n hb (by simp)) (fun b o _ e n=>u.free b o e n (by simp)) (fun b o _ e=>u.there b o e (by simp)) u.tups u.frzs u.tbls (fun m' hm=>by
  obtain⟨o',es',ep',ho',r'⟩:=hm
  rw[ho]at ho';cases ho'
  exact⟨_,es',ep',hL,r'⟩) hok I.bare
theorem Inv.call{g':Array GenState}{t':Nat}{d':Drawn}{ch:List Addr}(I:Inv X pins σ H s)(u:Un (frs X.stack) ch H H' s.heap h')(hok:HOk X.prog X.w H' h')(hg:AllBare g')
  (hch:∀b∈ch,(b∈X.ex\/X.s₀.heap.objs.size<=b)/\b≠X.env.locals/\(∀x c,X.env.cells.lookup x=some c->c≠b)/\∀p∈X.pn++pins,p.1≠b) :
  Inv X pins σ H' { s with heap:=h',gens:=g',drawn:=d',toks:=t' }:=by
 obtain⟨m,⟨o,es,ep,ho,r⟩,_⟩:=id I.loc
 obtain⟨sl,hL⟩:=u.any ho I.free fun z=>(hch _ z).2.1 rfl
 exact I.step (ch:=ch) hch (fun b o hL hb hc e n=>u.keep b o e n (fun z=>(List.mem_cons.mp (I.stkSub b z)).elim hL hb) hc) (fun b o _ _ hc e n=>u.any e n hc) (fun b o hc e n=>u.free b o e n hc) (fun b o hc e=>u.there b o e hc) u.tups u.frzs u.tbls (fun m' hm=>by
  obtain⟨o',es',ep',ho',r'⟩:=hm
  rw[ho]at ho';cases ho'
  exact⟨_,es',ep',hL,r'⟩) hok hg
theorem Inv.turned{t':Nat}{it:Addr}(I:Inv X pins σ H s)(k:∀b o,b≠it->s.heap.get? b=some o->h'.get? b=some o)(hn:H it=none)(hL:it≠X.env.locals)
  (h1:it∈X.ex\/X.s₀.heap.objs.size<=it) (h2:∀x c,X.env.cells.lookup x=some c->c≠it) (h3:∀p∈X.pn++pins,p.1≠it):Inv X pins σ H { s with heap:=h',toks:=t' }:=by
 have nit:∀b u,H b=some u->b≠it:=fun b u e z=>by rw[z,hn]at e;cases e
 refine I.step (g':=s.gens) (d':=s.drawn) (ch:=[it]) (fun b hb=>?_) (fun b o _ _ hc e _=>k b o (fun z=>hc (by simp[z])) e) (fun b o _ _ hc e _=>⟨o.slots,k b o (fun z=>hc (by simp[z])) e⟩) (fun _ _ _ _ n=>n)
  (fun b o hc e=>⟨o,k b o (fun z=>hc (by simp[z])) e⟩) (fun _ _ e=>e) (fun _ _ _ e=>e) (fun b ps e=>⟨#[],by rw[e];simp⟩) (fun m hm=>?_) (fun b u e=>?_) I.bare
 ·have e:b=it:=by simpa using hb
  subst e
  exact⟨h1,hL,h2,h3⟩
 ·obtain⟨o,es,ep,ho,r⟩:=hm
  exact⟨o,es,ep,k _ o (Ne.symm hL) ho,r⟩
 ·refine(I.hok b u e).stay (fun c v hc q=>k c v ?_ q) (fun _ q=>q) fun _ _ q=>q
  rcases hc with z | z
  ·rw[z];exact nit b u e
  ·exact nit c _ z
theorem Inv.tok(I:Inv X pins σ H s)(t:Nat):Inv X pins σ H { s with toks:=t }:=I.un (h':=s.heap) (t':=t) Un.refl I.hok
theorem Inv.kept{t':Nat}(I:Inv X pins σ H s)(k:∀b u,s.heap.get? b=some u->h'.get? b=some u):Inv X pins σ H { s with heap:=h',toks:=t' }:=I.un (Un.kept k) (I.hok.kept k)
theorem Inv.laid{a:Addr}{o:HO}{t':Nat}(I:Inv X pins σ H s)(k:∀b u,s.heap.get? b=some u->h'.get? b=some u)(hp:s.heap.objs.size<=a)(new:ObjOk X.prog X.w (upd H a o) h' a o) :
  Inv X pins σ (upd H a o) { s with heap:=h',toks:=t' }:=I.un (Un.laid k hp (I.hok.fresh hp)) (I.hok.laid k hp new)
theorem Inv.write{x e:Addr}{o:HO}{t':Nat}(I:Inv X pins σ H s)(mu:Mut (H x))(he:e=x\/H e=some (.own x))(k:∀b u,b≠e->s.heap.get? b=some u->h'.get? b=some u)(heo:∃u,h'.get? e=some u)
  (new:ObjOk X.prog X.w (upd H x o) h' x o):Inv X pins σ (upd H x o) { s with heap:=h',toks:=t' }:=I.un (Un.write mu he k heo) (I.hok.write mu he k heo new)
theorem Inv.pins_of{pins':List (Addr×Obj)}(I:Inv X pins σ H s)(h:∀p∈pins',s.heap.get? p.1=some p.2/\H p.1=none/\p.1≠X.env.locals/\p.1∉X.fs/\∀v,p.2.data≠ .cell v):Inv X pins' σ H s :=
 ⟨I.ok,I.os,I.bare,I.base,I.loc,I.cell,I.free,I.freeC,fun p hp=>(List.mem_append.mp hp).elim (fun z=>I.pin p (List.mem_append_left _ z)) (h p),I.hok,I.len⟩
theorem Iy{N:List Str}(hN:N.Nodup){i j:Nat}{x:Str}(a:N[i]?=some x)(b:N[j]?=some x):i=j:=by
 obtain⟨h1,e1⟩:=List.getElem?_eq_some_iff.mp a
 obtain⟨h2,e2⟩:=List.getElem?_eq_some_iff.mp b
 exact(List.getElem_inj hN).mp (e1.trans e2.symm)
theorem Ec{M:Model}{A:Around}{E:Value->Shared->Prop}{i:Nat}{x:Str}{v:V}{u:Value}{Q:Unit->Shared->Prop}(I:Inv X pins σ H s)(hN:X.N.Nodup)(hi:X.N[i]?=some x)(hx:Loc X.env.scope x)(r:RelV v u)
  (h:∀s',Inv X pins (σ.set i (some v)) H s'->(∃a,Heap.SameBut a s.heap s'.heap/\(a=X.env.locals\/X.env.cells.lookup x=some a))->Q () s') (hf:X.fn x=true\/X.env.scope.names.lookup x=some .local:=by first | exact .inl rfl | exact .inr rfl | assumption):wpAny M A (storeName X.env x u) Q E s:=by
 obtain⟨m,hn,hl⟩:=id I.loc
 have hcls:(X.env.scope.kind == .class||(X.env.scope.kind == .module&&X.env.locals != X.env.globals))=false:=by rw[I.ok.kind];rfl
 have hiσ:i<σ.length:=by rw[I.len];exact(List.getElem?_eq_some_iff.mp hi).1
 have cne:=I.cne
 have tracked:∀{a:Addr} {h':Heap},(∃o,s.heap.get? a=some o/\H a=none)->Heap.SameBut a s.heap h'->HOk X.prog X.w H h':=fun{a h'} ha hs b ob e=>by
  obtain⟨_,_,hfree⟩:=ha
  refine(I.hok b ob e).stay (fun c w' hc q=>(hs.2 c ?_).trans q) (fun _ q=>q) fun _ _ q=>q
  rintro rfl
  rcases hc with rfl | hc
  ·rw[hfree]at e;cases e
  ·rw[hfree]at hc;cases hc
 rcases hx with hk | hk
 ·refine wpAny_storeName_local hk hn (fun h' hn' hs=>?_) hcls
  obtain⟨oL,_,_,hoL,_⟩:=id hn
  refine h _ ⟨I.ok,I.os,I.bare,⟨fun b o e n hb hx=>?_,fun b o e n hb hx=>?_,I.base.free,fun b o e hx=>?_,I.base.tups,I.base.frzs,I.base.tbls⟩,⟨_,hn',fun j y v' e1 e2 e3=>?_⟩,fun y c e=>?_,I.free,I.freeC,fun p hp=>?_,tracked ⟨oL,hoL,I.free⟩ hs,by simpa using I.len⟩ ⟨_,hs,.inl rfl⟩
  ·exact(hs.2 b (Nat.ne_of_lt (Nat.lt_of_lt_of_le (Heap.lt_size e) I.ok.above))).trans (I.base.keep b o e n hb hx)
  ·obtain⟨sl,e1⟩:=I.base.slot b o e n hb hx
   exact⟨sl,(hs.2 b (Nat.ne_of_lt (Nat.lt_of_lt_of_le (Heap.lt_size e) I.ok.above))).trans e1⟩
  ·obtain⟨o',e1⟩:=I.base.there b o e hx
   exact⟨o',(hs.2 b (Nat.ne_of_lt (Nat.lt_of_lt_of_le (Heap.lt_size e) I.ok.above))).trans e1⟩
  ·by_cases hj:j=i
   ·subst hj
    rw[hi]at e1;cases e1
    rw[List.getElem?_set_self hiσ]at e2
    cases e2
    exact⟨u,r,.inl ⟨hk,by simp⟩⟩
   ·rw[List.getElem?_set_ne (Ne.symm hj)]at e2
    obtain⟨u',r',q⟩:=hl j y v' e1 e2 e3
    refine⟨u',r',?_⟩
    rcases q with⟨k,e⟩ | ⟨k,c,e,z⟩
    ·refine .inl ⟨k,?_⟩
     have:y≠x:=fun e=>hj (Iy hN e1 (e▸hi))
     simp[this,e]
    ·exact .inr ⟨k,c,e,z.sameBut hs (cne y c e)⟩
  ·obtain⟨w',z⟩:=I.cell y c e
   exact⟨w',z.sameBut hs (cne y c e)⟩
  ·obtain⟨e,n,ne,nf,d⟩:=I.pin p hp
   exact⟨(hs.2 p.1 ne).trans e,n,ne,nf,d⟩
 ·have hfn:X.fn x=true:=by
   rcases hf with z | z
   ·exact z
   ·rw[z]at hk;cases hk
  obtain⟨c,hc⟩:=I.ok.has x (.inl hk)
  obtain⟨w',z⟩:=I.cell x c hc
  refine wpAny_storeName_cell I.ok.kind hk hc z (fun h' hc' hs=>?_)
  obtain⟨oc,hoc,hocd⟩:=id z
  refine h { s with heap:=h' } ⟨I.ok,I.os,I.bare,⟨fun b o e n hb hx=>?_,fun b o e n hb hx=>?_,I.base.free,fun b o e hx=>?_,I.base.tups,I.base.frzs,I.base.tbls⟩,⟨m,hn.sameBut hs (Ne.symm (cne x c hc)),fun j y v' e1 e2 e3=>?_⟩,fun y c' e=>?_,I.free,I.freeC,fun p hp=>?_,tracked ⟨oc,hoc,I.freeC x c hc⟩ hs,by simpa using I.len⟩ ⟨c,hs,.inr hc⟩
  ·exact(hs.2 b (Nat.ne_of_lt (Nat.lt_of_lt_of_le (Heap.lt_size e) (I.ok.cab x c hfn hc)))).trans (I.base.keep b o e n hb hx)
  ·obtain⟨sl,e1⟩:=I.base.slot b o e n hb hx
   exact⟨sl,(hs.2 b (Nat.ne_of_lt (Nat.lt_of_lt_of_le (Heap.lt_size e) (I.ok.cab x c hfn hc)))).trans e1⟩
  ·obtain⟨o',e1⟩:=I.base.there b o e hx
   exact⟨o',(hs.2 b (Nat.ne_of_lt (Nat.lt_of_lt_of_le (Heap.lt_size e) (I.ok.cab x c hfn hc)))).trans e1⟩
  ·by_cases hj:j=i
   ·subst hj
    rw[hi]at e1;cases e1
    rw[List.getElem?_set_self hiσ]at e2
    cases e2
    exact⟨u,r,.inr ⟨.inl hk,c,hc,hc'⟩⟩
   ·rw[List.getElem?_set_ne (Ne.symm hj)]at e2
    obtain⟨u',r',q⟩:=hl j y v' e1 e2 e3
    refine⟨u',r',?_⟩
    rcases q with q | ⟨k,c',e,z'⟩
    ·exact .inl q
    ·refine .inr ⟨k,c',e,z'.sameBut hs ?_⟩
     rintro rfl
     exact hj (Iy hN e1 (I.ok.inj _ _ _ e hc▸hi))
  ·by_cases hcc:c'=c
   ·subst hcc;exact⟨_,hc'⟩
   ·obtain⟨w2,z2⟩:=I.cell y c' e
    exact⟨w2,z2.sameBut hs hcc⟩
  ·obtain⟨e,n,ne,nf,d⟩:=I.pin p hp
   refine⟨(hs.2 p.1 ?_).trans e,n,ne,nf,d⟩
   intro q
   rw[q,hoc]at e
   have q':oc=p.2:=Option.some.inj e
   exact d w' (by rw[<-q'];exact hocd)
theorem q0{M:Model}{A:Around}{E:Value->Shared->Prop}{i:Nat}{x:Str}{v:V}{u:Value}{Q:Unit->Shared->Prop}(I:Inv X pins σ H s)(hN:X.N.Nodup)(hi:X.N[i]?=some x)(hx:Loc X.env.scope x)(r:RelV v u)
  (h:∀s',Inv X pins (σ.set i (some v)) H s'->Q () s') (hf:X.fn x=true\/X.env.scope.names.lookup x=some .local:=by first | exact .inl rfl | exact .inr rfl | assumption):wpAny M A (storeName X.env x u) Q E s :=
 Ec I hN hi hx r (fun s' I' _=>h s' I') hf
theorem Inv.call'{s':Shared}{ch:List Addr}(I:Inv X pins σ H s)(ho:s'.os=s.os)(u:Un (frs X.stack) ch H H' s.heap s'.heap)(hok:HOk X.prog X.w H' s'.heap)(hg:AllBare s'.gens)
  (hch:∀b∈ch,(b∈X.ex\/X.s₀.heap.objs.size<=b)/\b≠X.env.locals/\(∀x c,X.env.cells.lookup x=some c->c≠b)/\∀p∈X.pn++pins,p.1≠b):Inv X pins σ H' s':=by
 obtain⟨h',g',d',t',o'⟩:=s'
 have e:o'=s.os:=ho
 subst e
 exact I.call (g':=g') (t':=t') (d':=d') u hok hg hch
end
noncomputable abbrev XK:=Value->Option Addr->Hp->Prop
noncomputable abbrev St:=List (Option V)
noncomputable abbrev VK:=V->Hp->Prop
noncomputable abbrev TE:=St->Hp->VK->Prop
noncomputable abbrev TT:=St->Hp->(Bool->Hp->Prop)->Prop
noncomputable abbrev TA:=St->Hp->(List V->Hp->Prop)->Prop
structure Ends where
 nx:St->Hp->Prop
 rt:VK
 bk:St->Hp->Prop:=fun _ _=>False
 ct:St->Hp->Prop:=fun _ _=>False
noncomputable abbrev TS:=Ends->St->Hp->Prop
noncomputable def EP(X:Cx)(pins:List (Addr×Obj))(σ:St)(Q:VK)(u:Value)(s':Shared):Prop:=∃v H',Inv X pins σ H' s'/\RelV v u/\Q v H'
noncomputable def TP(X:Cx)(pins:List (Addr×Obj))(σ:St)(Q:Bool->Hp->Prop)(b:Bool)(s':Shared):Prop:=∃H',Inv X pins σ H' s'/\Q b H'
noncomputable def AP(X:Cx)(pins:List (Addr×Obj))(σ:St)(Q:List V->Hp->Prop)(us:List Value)(s':Shared):Prop:=∃vs H',Inv X pins σ H' s'/\Vals vs us/\Q vs H'
noncomputable def SP(X:Cx)(pins:List (Addr×Obj))(D:Ends)(f:Flow)(s':Shared):Prop :=
 match f with
 | .next=>∃σ' H',Inv X pins σ' H' s'/\D.nx σ' H'
 | .brk=>∃σ' H',Inv X pins σ' H' s'/\D.bk σ' H'
 | .cont=>∃σ' H',Inv X pins σ' H' s'/\D.ct σ' H'
 | .ret u=>∃v σ' H',Inv X pins σ' H' s'/\RelV v u/\D.rt v H'
noncomputable def PE(X:Cx)(e:Expr)(t:TE):Prop :=
 ∀(pins:List (Addr×Obj)) (s:Shared) (σ:St) (H:Hp) (Q:VK),Inv X pins σ H s->t σ H Q->wpAny (model X.prog X.w) X.A (eval e X.env) (EP X pins σ Q) X.xe s
noncomputable def PT(X:Cx)(e:Expr)(t:TT):Prop :=
 ∀(pins:List (Addr×Obj)) (s:Shared) (σ:St) (H:Hp) (Q:Bool->Hp->Prop),Inv X pins σ H s->t σ H Q->wpAny (model X.prog X.w) X.A (isTrue e X.env (eval e X.env)) (TP X pins σ Q) X.xe s
noncomputable def PW(X:Cx)(e:Expr)(t:TT):Prop :=
 ∀(whole:Sem Value) (pins:List (Addr×Obj)) (s:Shared) (σ:St) (H:Hp) (Q:Bool->Hp->Prop),Inv X pins σ H s->t σ H Q->wpAny (model X.prog X.w) X.A (isTrue e X.env whole) (TP X pins σ Q) X.xe s
theorem PW.pt{X:Cx}{e:Expr}{t:TT}(h:PW X e t):PT X e t:=h _
noncomputable def PA(X:Cx)(es:List Expr)(t:TA):Prop :=
 ∀(pos:Pos) (pins:List (Addr×Obj)) (s:Shared) (σ:St) (H:Hp) (Q:List V->Hp->Prop),Inv X pins σ H s->t σ H Q->wpAny (model X.prog X.w) X.A (spliced (backTo pos (starEach es X.env))) (AP X pins σ Q) X.xe s
noncomputable def PS(X:Cx)(st:Stmt)(t:TS):Prop :=
 ∀(pins:List (Addr×Obj)) (s:Shared) (σ:St) (H:Hp) (D:Ends),Inv X pins σ H s->t D σ H->wpAny (model X.prog X.w) X.A (exec st X.env) (SP X pins D) X.xe s
noncomputable def PSs(X:Cx)(st:List Stmt)(t:TS):Prop :=
 ∀(pins:List (Addr×Obj)) (s:Shared) (σ:St) (H:Hp) (D:Ends),Inv X pins σ H s->t D σ H->wpAny (model X.prog X.w) X.A (execs st X.env) (SP X pins D) X.xe s
theorem thn{α:Type}{t:Sem α}{Q Q':α->Shared->Prop}{M:Model}{A:Around}{E:Value->Shared->Prop}{s:Shared}(h:wpAny M A t Q E s)(hQ:∀a s,Q a s->Q' a s):wpAny M A t Q' E s:=wpAny_mono h hQ fun _ _ x=>x
section
variable{X:Cx}
noncomputable def Hc(i:Nat):TE:=fun σ H Q=>∃v,σ[i]?=some (some v)/\Q v H
noncomputable def tC(v:V):TE:=fun _ H Q=>Q v H
theorem Ws{i:Nat}{x:Str}{pos:Pos}(hN:X.N[i]?=some x)(hv:Vis X.env.scope x)(hd:(x ==("__debug__":Str))=false:=by decide)(hcd:(x ==("__classdict__":Str))=false:=by decide):PE X (.Name x pos) (Hc i):=by
 intro pins s σ H Q I h
 obtain⟨v,e,h⟩:=h
 obtain⟨m,hn,hl⟩:=I.loc
 obtain⟨u,r,l⟩:=hl i x v hN e hv
 have fin:EP X pins σ Q u s:=⟨v,H,I,r,h⟩
 rcases l with⟨hk,hm⟩ | ⟨hk,c,hc,hcell⟩
 ·exact wpAny_Name (wpAny_loadName_local I.ok.kind hk hn hm fin) hd
 ·rcases hk with hk | hk
  ·exact wpAny_Name (wpAny_loadName_cell I.ok.kind hk hc hcell fin) hd
  ·exact wpAny_Name (wpAny_loadName_free I.ok.kind hk hc hcell fin hcd) hd
theorem B5{i j pos}:PE X (.Constant (.int i) j pos) (tC (.int i)):=fun _ _ _ H _ I h=>wpAny_Constant_int ⟨.int i,H,I.tok _,⟨_,rfl⟩,h⟩
theorem m9{b j pos}:PE X (.Constant (.bool b) j pos) (tC (.bl b)):=fun _ _ _ H _ I h=>Constant_bool ⟨.bl b,H,I,rfl,h⟩
theorem Wy{j pos}:PE X (.Constant .none j pos) (tC .non):=fun _ _ _ H _ I h=>Constant_none ⟨.non,H,I,rfl,h⟩
theorem O7{x j pos}:PE X (.Constant (.str x) j pos) (tC (.str x)):=fun _ _ _ H _ I h=>Calls.Constant_str ⟨.str x,H,I.tok _,⟨_,rfl⟩,h⟩
noncomputable def Gl(X:Cx)(x:Str):Prop:=X.env.kindOf x=some .globalImplicit
theorem Ht{E:Value->Shared->Prop}{pins:List (Addr×Obj)}{s:Shared}{σ:St}{H:Hp}{x:Str}{u:Value}{pos:Pos}{Q:Value->Shared->Prop}(I:Inv X pins σ H s)(hg:Gl X x)(hm:X.mg x=some u)(h:Q u s)
  (hd:(x ==("__debug__":Str))=false:=by decide):wpAny (model X.prog X.w) X.A (eval (.Name x pos) X.env) Q E s :=
 Calls.Name_function_global I.ok.kind hg (Calls.loadGlobal_global (by rw[I.ok.glob];exact I.mod.glob.keeps I.bk) hm h) hd
theorem g9{E:Value->Shared->Prop}{pins:List (Addr×Obj)}{s:Shared}{σ:St}{H:Hp}{x:Str}{u:Value}{pos:Pos}{Q:Value->Shared->Prop}(I:Inv X pins σ H s)(hg:Gl X x)(hm:X.mg x=none)(hv:bootBuiltins x=some u)(h:Q u s)
  (hn:x≠ "__name__":=by decide) (hd:(x ==("__debug__":Str))=false:=by decide):wpAny (model X.prog X.w) X.A (eval (.Name x pos) X.env) Q E s:=by
 obtain⟨mb,h1,h2⟩:=I.mod.blt
 exact Calls.Name_function_global I.ok.kind hg (Calls.loadGlobal_builtin (by rw[I.ok.glob];exact I.mod.glob.keeps I.bk) hm (by rw[I.ok.blt];exact h1.keeps I.bk) ((h2 x hn).trans hv) h) hd
theorem Gu{x:Str}{v:V}{u:Value}{pos:Pos}(hg:Gl X x)(hm:X.mg x=some u)(r:RelV v u)(hd:(x ==("__debug__":Str))=false:=by decide):PE X (.Name x pos) (tC v) :=
 fun _ _ _ H _ I h=>Ht I hg hm ⟨v,H,I,r,h⟩ hd
theorem Tj{x:Str}{v:V}{u:Value}{pos:Pos}(hg:Gl X x)(hm:X.mg x=none)(hv:bootBuiltins x=some u)(r:RelV v u)(hn:x≠ "__name__":=by decide)(hd:(x ==("__debug__":Str))=false:=by decide):PE X (.Name x pos) (tC v) :=
 fun _ _ _ H _ I h=>g9 I hg hm hv ⟨v,H,I,r,h⟩ hn hd
variable{a b:Expr}{ta tb:TE}{pos:Pos}
noncomputable def tB(t:TE):TT:=fun σ H Q=>t σ H fun x H1=>∃c,x = .bl c/\Q c H1
theorem G7{e:Expr}{t:TE}(h:PE X e t)(he:∀whole,isTrue e X.env whole =(do let v <-whole;standAt e.pos;holding [v] (truthy v)):=by intro _;rfl):PT X e (tB t):=by
 intro pins s σ H Q I hw
 refine isTrue_plain (thn (h pins s σ H _ I hw) fun v s1 ⟨x,H1,I1,r1,q1⟩=>?_) (he _)
 obtain⟨d,rfl,q⟩:=q1
 cases r1
 exact wpAny_truthy_bool ⟨H1,I1,q⟩
variable{tA tB':TT}{rest:List Expr}
noncomputable def zBd(t u:TT):TT:=fun σ H Q=>t σ H fun c H1=>if c=true then u σ H1 Q else Q false H1
noncomputable def tOr(t u:TT):TT:=fun σ H Q=>t σ H fun c H1=>if c=true then Q true H1 else u σ H1 Q
noncomputable def zBv(t:TT):TT:=fun σ H Q=>t σ H fun c H1=>Q (!c) H1
theorem f7(ha:PT X a tA):PW X (.BoolOp .And [a] pos) tA:=by
 intro wh pins s σ H Q I h
 refine isTrue_and (thn (ha pins s σ H Q I h) fun c s1 e=>?_)
 cases c with
 | true=>exact isTrue_and_nil e
 | false=>exact e
theorem T3(ha:PT X a tA):PW X (.BoolOp .Or [a] pos) tA:=by
 intro wh pins s σ H Q I h
 refine isTrue_or (thn (ha pins s σ H Q I h) fun c s1 e=>?_)
 cases c with
 | false=>exact isTrue_or_nil e
 | true=>exact e
theorem i8(ha:PT X a tA)(hb:PW X (.BoolOp .And (b::rest) pos) tB'):PW X (.BoolOp .And (a::b::rest) pos) (zBd tA tB'):=by
 intro wh pins s σ H Q I h
 refine isTrue_and (thn (ha pins s σ H _ I h) fun c s1 ⟨H1,I1,q1⟩=>?_)
 cases c with
 | true=>exact hb wh pins s1 σ H1 Q I1 q1
 | false=>exact⟨H1,I1,q1⟩
theorem Az(ha:PT X a tA)(hb:PW X (.BoolOp .Or (b::rest) pos) tB'):PW X (.BoolOp .Or (a::b::rest) pos) (tOr tA tB'):=by
 intro wh pins s σ H Q I h
 refine isTrue_or (thn (ha pins s σ H _ I h) fun c s1 ⟨H1,I1,q1⟩=>?_)
 cases c with
 | true=>exact⟨H1,I1,q1⟩
 | false=>exact hb wh pins s1 σ H1 Q I1 q1
theorem M2(ha:PT X a tA):PT X (.UnaryOp .Not a pos) (zBv tA):=by
 intro pins s σ H Q I h
 exact isTrue_not (ha pins s σ H (fun c H1=>Q (!c) H1) I h)
noncomputable def Xt(ta tb:TE):TE:=fun σ H Q=>ta σ H fun x H1=>∃c,x = .bl c/\if c=true then tb σ H1 Q else Q (.bl false) H1
noncomputable def zBr(ta tb:TE):TE:=fun σ H Q=>ta σ H fun x H1=>∃c,x = .bl c/\if c=true then Q (.bl true) H1 else tb σ H1 Q
noncomputable def Zw(ta:TE):TE:=fun σ H Q=>ta σ H fun x H1=>∃c,x = .bl c/\Q (.bl (!c)) H1
theorem K1{op}{t:TE}(h:PE X a t):PE X (.BoolOp op [a] pos) t:=fun pins s σ H Q I hw=>BoolOp_one (h pins s σ H Q I hw)
theorem K6(ha:PE X a ta)(hb:PE X (.BoolOp .And (b::rest) pos) tb):PE X (.BoolOp .And (a::b::rest) pos) (Xt ta tb):=by
 intro pins s σ H Q I h
 refine BoolOp_and (thn (ha pins s σ H _ I h) fun v s1 ⟨x,H1,I1,r1,q1⟩=>?_)
 obtain⟨c,rfl,q1⟩:=q1
 cases r1
 refine wpAny_truthy_bool ?_
 cases c with
 | true=>exact hb pins s1 σ H1 Q I1 q1
 | false=>exact⟨.bl false,H1,I1,rfl,q1⟩
theorem Uo(ha:PE X a ta)(hb:PE X (.BoolOp .Or (b::rest) pos) tb):PE X (.BoolOp .Or (a::b::rest) pos) (zBr ta tb):=by
 intro pins s σ H Q I h
 refine BoolOp_or (thn (ha pins s σ H _ I h) fun v s1 ⟨x,H1,I1,r1,q1⟩=>?_)
 obtain⟨c,rfl,q1⟩:=q1
 cases r1
 refine wpAny_truthy_bool ?_
 cases c with
 | false=>exact hb pins s1 σ H1 Q I1 q1
 | true=>exact⟨.bl true,H1,I1,rfl,q1⟩
theorem Sd(ha:PE X a ta):PE X (.UnaryOp .Not a pos) (Zw ta):=by
 intro pins s σ H Q I h
 refine UnaryOp_ (thn (ha pins s σ H _ I h) fun v s1 ⟨x,H1,I1,r1,q1⟩=>?_)
 obtain⟨c,rfl,q1⟩:=q1
 cases r1
 exact not_of (wpAny_truthy_bool ⟨.bl (!c),H1,I1,rfl,q1⟩)
noncomputable def tIf(t:TT)(ta tb:TE):TE:=fun σ H Q=>t σ H fun c H1=>if c=true then ta σ H1 Q else tb σ H1 Q
theorem Rb{c:Expr}(hc:PT X c tA)(ha:PE X a ta)(hb:PE X b tb):PE X (.IfExp c a b pos) (tIf tA ta tb):=by
 intro pins s σ H Q I h
 refine wpAny_IfExp (thn (hc pins s σ H _ I h) fun d s1 ⟨H1,I1,q1⟩=>?_)
 cases d with
 | true=>exact ha pins s1 σ H1 Q I1 q1
 | false=>exact hb pins s1 σ H1 Q I1 q1
end
noncomputable def SqL(K:PySem.W.Frag)(H:Hp)(a:Addr)(xs:List V):Prop :=
 Rd H a (.lst xs) \/
  ∃(o:Obj) (its:Array Value) (n:Nat),K.lookup a=some o/\o.cls = .type "list"/\o.dict=none/\o.data = .seq its n/\its.size<=sizeLine/\Vals xs its.toList
noncomputable def SqT(K:PySem.W.Frag)(H:Hp)(a:Addr)(xs:List V):Prop :=
 Rd H a (.tup xs) \/
  ∃(o:Obj) (its:Array Value) (n:Nat),K.lookup a=some o/\o.cls = .type "tuple"/\o.data = .seq its n/\its.size<=sizeLine/\Vals xs its.toList
noncomputable def zBg:Value->Option V
 | .none=>some .non
 | .bool b=>some (.bl b)
 | .int i _=>some (.int i)
 | .str x _=>some (.str x)
 | .bytes b _=>some (.byt b)
 | .float b _=>some (.flt b)
 | .ref a=>some (.ref a)
 | .type n=>some (.ty n)
 | _=>none
theorem RelV.abs{x:V}{u:Value}(r:RelV x u):zBg u=some x:=by
 cases x with
 | non=>cases r;rfl
 | bl _=>cases r;rfl
 | int _=>obtain⟨t,rfl⟩:=r;rfl
 | str _=>obtain⟨t,rfl⟩:=r;rfl
 | byt _=>obtain⟨t,rfl⟩:=r;rfl
 | flt _=>obtain⟨t,rfl⟩:=r;rfl
 | ref _=>cases r;rfl
 | ty _=>cases r;rfl
theorem RelV.inj{x y:V}{u:Value}(r:RelV x u)(q:RelV y u):x=y:=Option.some.inj (r.abs.symm.trans q.abs)
theorem Vals.inj:∀{xs ys:List V} {us:List Value},Vals xs us->Vals ys us->xs=ys
 | _,_,_,.nil,.nil=>rfl
 | _,_,_,.cons r t,.cons r' t'=>by rw[r.inj r',Vals.inj t t']
section
variable{X:Cx}{pins:List (Addr×Obj)}{σ:St}{H:Hp}{s:Shared}{a:Addr}{xs ys:List V}
theorem SqL.of{K:PySem.W.Frag}(h:H a=some (.lst xs)):SqL K H a xs:=.inl (.inl h)
theorem SqT.of{K:PySem.W.Frag}(h:H a=some (.tup xs)):SqT K H a xs:=.inl (.inl h)
theorem Inv.list(I:Inv X pins σ H s)(h:SqL X.K H a xs):∃its:List Value,Vals xs its/\PlainL s.heap a its.toArray/\xs.length<=sizeLine:=by
 rcases h with h | ⟨o,its,n,hk,hc,hd,hs,hz,r⟩
 ·obtain⟨z,its,n,r,e⟩:=h.ok I.hok
  exact⟨its,r,⟨_,n,e,rfl,rfl,rfl⟩,z⟩
 ·refine⟨its.toList,r,⟨o,n,I.kIn a o hk,hc,hd,by simpa using hs⟩,?_⟩
  have e:=r.length
  simp only[Array.length_toList]at e
  omega
theorem Inv.tuple(I:Inv X pins σ H s)(h:SqT X.K H a xs):∃its:List Value,Vals xs its/\IsTup s.heap a its.toArray/\xs.length<=sizeLine:=by
 rcases h with h | ⟨o,its,n,hk,hc,hs,hz,r⟩
 ·obtain⟨z,its,r,p⟩:=h.ok I.hok
  exact⟨its,r,p,z⟩
 ·refine⟨its.toList,r,⟨o,I.kIn a o hk,hc,n,by simpa using hs⟩,?_⟩
  have e:=r.length
  simp only[Array.length_toList]at e
  omega
theorem Inv.list_inj(I:Inv X pins σ H s)(h:SqL X.K H a xs)(h':SqL X.K H a ys):xs=ys:=by
 obtain⟨its,r,⟨o,n,e,_,_,d⟩,_⟩:=I.list h
 obtain⟨its',r',⟨o',n',e',_,_,d'⟩,_⟩:=I.list h'
 rw[e]at e';cases e'
 rw[d]at d'
 injection d' with d1 _
 have:its=its':=by simpa using congrArg Array.toList d1
 subst this
 exact r.inj r'
theorem Inv.tuple_inj(I:Inv X pins σ H s)(h:SqT X.K H a xs)(h':SqT X.K H a ys):xs=ys:=by
 obtain⟨its,r,⟨o,e,_,n,d⟩,_⟩:=I.tuple h
 obtain⟨its',r',⟨o',e',_,n',d'⟩,_⟩:=I.tuple h'
 rw[e]at e';cases e'
 rw[d]at d'
 injection d' with d1 _
 have:its=its':=by simpa using congrArg Array.toList d1
 subst this
 exact r.inj r'
end
noncomputable abbrev Cx.wish(X:Cx)(E:Value->Shared->Prop):Cx:={ X with xe:=E }
noncomputable abbrev Cx.nox(X:Cx):Cx:=X.wish fun _ _=>False
theorem Cx.Ok.wish{X:Cx}(ok:X.Ok)(E:Value->Shared->Prop):(X.wish E).Ok :=
 ⟨ok.mod,ok.kind,ok.glob,ok.blt,ok.above,ok.inj,ok.has,ok.cab,ok.hd,ok.frames,ok.stk,ok.exf,ok.bs,ok.bsz,ok.noex,ok.exfs,ok.funs,ok.frf⟩
theorem Cx.Ok.unwish{X:Cx}{E:Value->Shared->Prop}(ok:(X.wish E).Ok):X.Ok :=
 ⟨ok.mod,ok.kind,ok.glob,ok.blt,ok.above,ok.inj,ok.has,ok.cab,ok.hd,ok.frames,ok.stk,ok.exf,ok.bs,ok.bsz,ok.noex,ok.exfs,ok.funs,ok.frf⟩
section
variable{X:Cx}{pins:List (Addr×Obj)}{σ:St}{H:Hp}{s:Shared}{E:Value->Shared->Prop}
theorem Inv.wish(I:Inv X pins σ H s)(E:Value->Shared->Prop):Inv (X.wish E) pins σ H s:=⟨I.ok.wish E,I.os,I.bare,I.base,I.loc,I.cell,I.free,I.freeC,I.pin,I.hok,I.len⟩
theorem Inv.unwish(I:Inv (X.wish E) pins σ H s):Inv X pins σ H s:=⟨I.ok.unwish,I.os,I.bare,I.base,I.loc,I.cell,I.free,I.freeC,I.pin,I.hok,I.len⟩
theorem SP.unwish{D:Ends}{f:Flow}{s':Shared}(h:SP (X.wish E) pins D f s'):SP X pins D f s':=by
 cases f with
 | next=>obtain⟨σ',H',I,q⟩:=h;exact⟨σ',H',I.unwish,q⟩
 | brk=>obtain⟨σ',H',I,q⟩:=h;exact⟨σ',H',I.unwish,q⟩
 | cont=>obtain⟨σ',H',I,q⟩:=h;exact⟨σ',H',I.unwish,q⟩
 | ret u=>obtain⟨v,σ',H',I,r,q⟩:=h;exact⟨v,σ',H',I.unwish,r,q⟩
theorem PSs.nox{st:List Stmt}{t:TS}(h:PSs X.nox st t):PSs X st t:=fun pins s σ H D I hw =>
 wpAny_mono (h pins s σ H D (I.wish _) hw) (fun _ _ q=>q.unwish) fun _ _ z=>False.elim z
end
section
variable{X:Cx}{st:Stmt}{rest:List Stmt}{t u:TS}{e:Expr}{te:TE}{pos:Pos}
noncomputable def Xz:TS:=fun D σ H=>D.nx σ H
noncomputable def Me(t u:TS):TS:=fun D σ H=>t { D with nx:=u D } σ H
theorem D9:PSs X [] Xz:=fun _ _ σ H _ I h=>wpAny_execs_nil ⟨σ,H,I,h⟩
theorem B2(h1:PS X st t)(h2:PSs X rest u):PSs X (st::rest) (Me t u):=by
 intro pins s σ H D I h
 refine wpAny_execs_cons (thn (h1 pins s σ H { D with nx:=u D } I h) fun f s1 q=>?_)
 cases f with
 | next =>
  obtain⟨σ',H',I',q⟩:=q
  exact h2 pins s1 σ' H' D I' q
 | ret v=>exact q
 | brk=>exact q
 | cont=>exact q
theorem B3(h1:PS X st t):PSs X [st] t:=by
 intro pins s σ H D I h
 refine wpAny_execs_cons (thn (h1 pins s σ H D I h) fun f s1 q=>?_)
 cases f with
 | next=>exact wpAny_execs_nil q
 | ret v=>exact q
 | brk=>exact q
 | cont=>exact q
theorem Inv.quiet{pins:List (Addr×Obj)}{σ:St}{H:Hp}{s:Shared}(I:Inv X pins σ H s):interactive X.env=false:=by simp[interactive,I.ok.kind]
noncomputable def Xp(te:TE):TS:=fun D σ H=>te σ H fun _ H1=>D.nx σ H1
theorem G6(he:PE X e te)(hs:swapsWith e none pos.line X.env=pure false:=by rfl):PS X (.Expr e pos) (Xp te):=by
 intro pins s σ H D I h
 exact wpAny_Expr_any (thn (he pins s σ H _ I h) fun v s1 ⟨x,H1,I1,r1,q1⟩=>⟨σ,H1,I1,q1⟩) I.quiet hs
noncomputable def Ro(te:TE):TS:=fun D σ H=>te σ H D.rt
theorem C0(he:PE X e te):PS X (.Return (some e) pos) (Ro te):=by
 intro pins s σ H D I h
 exact wpAny_Return_some (thn (he pins s σ H _ I h) fun v s1 ⟨x,H1,I1,r1,q1⟩=>⟨x,σ,H1,I1,r1,q1⟩)
noncomputable def zBe(c:TT)(t u:TS):TS:=fun D σ H=>c σ H fun b H1=>if b=true then t D σ H1 else u D σ H1
theorem J8{c:Expr}{a b:List Stmt}{tc:TT}(hc:PT X c tc)(ha:PSs X a t)(hb:PSs X b u):PS X (.If c a b pos) (zBe tc t u):=by
 intro pins s σ H D I h
 refine wpAny_If (thn (hc pins s σ H _ I h) fun d s1 ⟨H1,I1,q1⟩=>?_)
 cases d with
 | true=>exact ha pins s1 σ H1 D I1 q1
 | false=>exact hb pins s1 σ H1 D I1 q1
noncomputable def We:TS:=fun _ _ _=>False
theorem Ce:PS X st We:=fun _ _ _ _ _ _ h=>h.elim
end
noncomputable abbrev TG:=V->St->Hp->(St->Hp->Prop)->Prop
noncomputable abbrev TGs:=List V->St->Hp->(St->Hp->Prop)->Prop
noncomputable def PG(X:Cx)(target:Expr)(t:TG):Prop :=
 ∀(pins:List (Addr×Obj)) (s:Shared) (σ:St) (H:Hp) (v:V) (u:Value) (Q:St->Hp->Prop),Inv X pins σ H s->RelV v u->t v σ H Q ->
  wpAny (model X.prog X.w) X.A (assign target X.env u) (fun _ s'=>∃σ' H',Inv X pins σ' H' s'/\Q σ' H') X.xe s
noncomputable def PGs(X:Cx)(ts:List Expr)(t:TGs):Prop :=
 ∀(pins:List (Addr×Obj)) (s:Shared) (σ:St) (H:Hp) (vs:List V) (us:List Value) (Q:St->Hp->Prop),Inv X pins σ H s->Vals vs us->t vs σ H Q ->
  wpAny (model X.prog X.w) X.A (assignInOrder ((assignEach ts X.env).map (·.2)) us) (fun _ s'=>∃σ' H',Inv X pins σ' H' s'/\Q σ' H') X.xe s
noncomputable abbrev TSet:=V->V->V->Hp->(Hp->Prop)->Prop
noncomputable def zBc(X:Cx)(t:TSet):Prop :=
 ∀(pins:List (Addr×Obj)) (s:Shared) (σ:St) (H:Hp) (o i v:V) (ov iv u:Value) (Q:Hp->Prop),Inv X pins σ H s->RelV o ov->RelV i iv->RelV v u->t o i v H Q ->
  wpAny (model X.prog X.w) X.A (setItem ov iv u) (fun _ s'=>∃H',Inv X pins σ H' s'/\Q H') X.xe s
section
variable{X:Cx}{pos:Pos}
noncomputable def K7(i:Nat):TG:=fun v σ H Q=>Q (σ.set i (some v)) H
theorem E1{i:Nat}{x:Str}(hN:X.N.Nodup)(hi:X.N[i]?=some x)(hx:Loc X.env.scope x)(hf:X.fn x=true\/X.env.scope.names.lookup x=some .local:=by first | exact .inl rfl | exact .inr rfl | assumption):PG X (.Name x pos) (K7 i):=by
 intro pins s σ H v u Q I r h
 exact wpAny_assign_Name (q0 I hN hi hx r (fun s' I'=>⟨_,H,I',h⟩) hf)
noncomputable def Yo:TGs:=fun vs σ H Q=>vs = []/\Q σ H
noncomputable def Gp(t:TG)(u:TGs):TGs:=fun vs σ H Q=>∃v r,vs=v::r/\t v σ H fun σ' H'=>u r σ' H' Q
theorem M6:PGs X [] Yo:=by
 intro pins s σ H vs us Q I r h
 obtain⟨e,h⟩:=h
 subst e
 cases r
 exact assignInOrder_nil ⟨σ,H,I,h⟩
theorem C7{e:Expr}{es:List Expr}{t:TG}{u:TGs}(h1:PG X e t)(h2:PGs X es u)
  (hs:(assignEach (e::es) X.env).map (·.2)=assign e X.env ::(assignEach es X.env).map (·.2):=by rfl):PGs X (e::es) (Gp t u):=by
 intro pins s σ H vs us Q I r h
 obtain⟨v,vr,e1,h⟩:=h
 subst e1
 cases r with
 | cons r rr =>
  rw[hs]
  refine assignInOrder_cons (thn (h1 pins s σ H _ _ _ I r h) fun _ s1 ⟨σ1,H1,I1,q1⟩=>?_)
  exact h2 pins s1 σ1 H1 _ _ Q I1 rr q1
noncomputable def Vr(K:PySem.W.Frag)(n:Nat)(t:TGs):TG:=fun v σ H Q=>∃a xs,v = .ref a/\SqT K H a xs/\xs.length=n/\t xs σ H Q
theorem Yl{es:List Expr}{k:Nat}{t:TGs}{n:Nat}(hc:X.calm=true)(h:PGs X es t)
  (hn:(assignEach es X.env).length=n:=by rfl) (hst:(assignEach es X.env).findIdx? (·.1)=none:=by rfl):PG X (.Tuple es k pos) (Vr X.K n t):=by
 intro pins s σ H v u Q I r hw
 obtain⟨a,xs,e1,hq,hl,hw⟩:=hw
 subst e1
 cases r
 obtain⟨its,rv,ht,hz⟩:=I.tuple hq
 refine assign_Tuple_tuple (I.ok.hd hc) ht (by simp[hn,<-hl,rv.length]) hst fun h' hx=>?_
 have I1:Inv X pins σ H { s with heap:=h' }:=I.kept (t':=s.toks) fun b o e=>hx b o (Nat.ne_of_lt (Heap.lt_size e)) e
 exact h pins _ σ H xs _ Q I1 (by simpa using rv) hw
noncomputable def zBf(to ti:TE)(t:TSet):TG:=fun v σ H Q=>to σ H fun o H1=>ti σ H1 fun i H2=>t o i v H2 fun H3=>Q σ H3
theorem Io{o i:Expr}{to ti:TE}{t:TSet}(ho:PE X o to)(hi:PE X i ti)(hs:zBc X t)
  (ha:∀v,assign (.Subscript o i pos) X.env v =(do
   let ov <-holding [v] (eval o X.env)
   let iv <-holding [v,ov] (eval i X.env)
   standAt pos
   holding [v,ov,iv] (setItem ov iv v)
   release [v,ov,iv] []):=by intro _;rfl):PG X (.Subscript o i pos) (zBf to ti t):=by
 intro pins s σ H v u Q I r h
 rw[ha]
 refine wpAny_bind (wpAny_holding (thn (ho pins s σ H _ I h) fun ov s1 ⟨x,H1,I1,r1,q1⟩=>?_))
 refine wpAny_bind (wpAny_holding (thn (hi pins s1 σ H1 _ I1 q1) fun iv s2 ⟨y,H2,I2,r2,q2⟩=>?_))
 refine wpAny_bind (wpAny_standAt (wpAny_bind (wpAny_holding (thn (hs pins s2 σ H2 x y v ov iv u _ I2 r1 r2 r q2) fun _ s3 ⟨H3,I3,q3⟩=>?_))))
 exact wpAny_release ⟨σ,H3,I3,q3⟩
noncomputable def Oy(te:TE)(g:TG):TS:=fun D σ H=>te σ H fun x H1=>g x σ H1 D.nx
theorem Bq{tg e:Expr}{te:TE}{g:TG}(he:PE X e te)(hg:PG X tg g)(hs:swapsWithSole [tg] e pos.line X.env=pure false:=by rfl)(hw:swappedStores [tg] e X.env=pure none:=by rfl)
  (h1:(assignEach [tg] X.env).map (·.2) = [assign tg X.env]:=by rfl):PS X (.Assign [tg] e pos) (Oy te g):=by
 intro pins s σ H D I h
 refine wpAny_Assign_stores (thn (he pins s σ H _ I h) fun v s1 ⟨x,H1,I1,r1,q1⟩=>?_) hs hw
 rw[h1]
 exact thn (hg pins s1 σ H1 x v _ I1 r1 q1) fun _ s2 q=>q
theorem C6{i:Nat}{x:Str}{e:Expr}{te:TE}{pos':Pos}(hN:X.N.Nodup)(hi:X.N[i]?=some x)(hx:Loc X.env.scope x)(he:PE X e te)(hs:swapsWith e (some (.Name x pos')) pos.line X.env=pure false:=by rfl)(hf:X.fn x=true\/X.env.scope.names.lookup x=some .local:=by first | exact .inl rfl | exact .inr rfl | assumption) :
  PS X (.Assign [.Name x pos'] e pos) (Oy te (K7 i)):=by
 intro pins s σ H D I h
 refine wpAny_Assign_Name (thn (he pins s σ H _ I h) fun v s1 ⟨y,H1,I1,r1,q1⟩=>?_) hs
 exact q0 I1 hN hi hx r1 (fun s2 I2=>⟨_,H1,I2,q1⟩) hf
noncomputable def zBk(i j:Nat)(ta:TA):TS:=fun D σ H=>ta σ H fun vs H1=>∃v w,vs = [v,w]/\D.nx ((σ.set i (some v)).set j (some w)) H1
theorem Ru{i j:Nat}{x y:Str}{a b:Expr}{ta:TA}{px py pt:Pos}{kt k2 pt2}(hc:X.calm=true)(hN:X.N.Nodup)(hi:X.N[i]?=some x)(hj:X.N[j]?=some y)(hij:i≠j)
  (hx:X.env.scope.names.lookup x=some .local) (hy:X.env.scope.names.lookup y=some .local) (ha:PA X [a,b] ta)
  (hw:swappedStores [.Tuple [.Name x px,.Name y py] kt pt] (.Tuple [a,b] k2 pt2) X.env=pure (some [x,y]))
  (hs:swapsWithSole [.Tuple [.Name x px,.Name y py] kt pt] (.Tuple [a,b] k2 pt2) pos.line X.env=pure false:=by rfl) :
  PS X (.Assign [.Tuple [.Name x px,.Name y py] kt pt] (.Tuple [a,b] k2 pt2) pos) (zBk i j ta):=by
 intro pins s σ H D I h
 rw[exec_Assign_arm]
 refine wpAny_bind (wpAny_standAt ?_)
 rw[hs]
 refine wpAny_bind (wpAny_pure ?_)
 rw[if_neg (by decide)]
 refine wpAny_bind (Tuple_ (thn (ha _ pins s σ H _ I h) fun us s1 ⟨vs,H1,I1,r1,q1⟩=>?_))
 obtain⟨v,w,e1,q1⟩:=q1
 subst e1
 obtain⟨u1,u2,rfl,rv,rw'⟩:∃u1 u2,us = [u1,u2]/\RelV v u1/\RelV w u2:=by
  cases r1 with
  | cons p q =>
   cases q with
   | cons p' q' =>
    cases q'
    exact⟨_,_,rfl,p,p'⟩
 refine wpAny_newObj_type ?_ (by show 2<=sizeLine;decide)
 have I2:Inv X pins σ H1 { s1 with heap:=s1.heap.push { cls:=.type "tuple",data:=.seq [u1,u2].toArray } }:=I1.kept (t':=s1.toks) fun b o e=>Heap.get?_push_of_some _ e
 rw[hw]
 refine wpAny_bind (wpAny_pure ?_)
 show wpAny (model X.prog X.w) X.A (do rule "assign.swapped-stores";let items <-unpackItems (.ref s1.heap.objs.size) 2 none;assignInOrder [fun v=>bindName X.env y v,fun v=>bindName X.env x v] items.reverse;pure Flow.next) _ _ _
 refine wpAny_bind (wpAny_rule (wpAny_bind (unpackItems_tuple (items:=#[u1,u2]) (I.ok.hd hc) (IsTup.new s1.heap _) fun h' hx'=>?_)))
 have I3:=I2.kept (h':=h') (t':=s1.toks) fun b o e=>hx' b o (Nat.ne_of_lt (Heap.lt_size e)) e
 show wpAny _ _ (assignInOrder [fun v=>bindName X.env y v,fun v=>bindName X.env x v] [u2,u1] >>= fun _=>pure Flow.next) _ _ _
 refine wpAny_bind (assignInOrder_cons (wpAny_bindName (q0 I3 hN hj (.inl hy) rw' (fun s2 I4=>?_) (.inr hy))))
 refine assignInOrder_cons (wpAny_bindName (q0 I4 hN hi (.inl hx) rv (fun s3 I5=>assignInOrder_nil (wpAny_pure ?_)) (.inr hx)))
 rw[List.set_comm _ _ (Ne.symm hij)]at I5
 exact⟨_,H1,I5,q1⟩
end
structure It where
 go:Nat->Hp->Prop
 yld:Nat->Hp->V->Hp->Prop
 stop:Nat->Hp->Prop
noncomputable def p8(X:Cx)(pins:List (Addr×Obj))(H:Hp)(b:Addr):Prop :=
 H b=none/\b≠X.env.locals/\b∉X.fs/\(b∈X.ex\/X.s₀.heap.objs.size<=b)/\(∀x c,X.env.cells.lookup x=some c->c≠b)/\∀p∈X.pn++pins,p.1≠b
theorem Inv.fpOk{X:Cx}{pins:List (Addr×Obj)}{σ:St}{H H':Hp}{s:Shared}{b:Addr}(I:Inv X pins σ H s)(hb:s.heap.objs.size<=b)(hn:H' b=none):p8 X pins H' b:=by
 refine⟨hn,Nat.ne_of_gt (Nat.lt_of_lt_of_le I.lt hb),I.nofs hb,.inr (Nat.le_trans I.sz hb),fun x c e z=>?_,fun p hp z=>?_⟩
 ·obtain⟨v,q⟩:=I.cell x c e
  exact absurd (Nat.lt_of_lt_of_le q.lt (by rw[z];exact hb)) (Nat.lt_irrefl _)
 ·exact absurd (Nat.lt_of_lt_of_le (Heap.lt_size (I.pin p hp).1) (by rw[z];exact hb)) (Nat.lt_irrefl _)
structure Turn(P:Program)(w:World)(K:PySem.W.Frag)(tg:Expr)(J:It)(fp:List Addr)(it:Addr)(tn:Nat->Heap->Prop):Prop where
 mem:it∈fp
 obj:∀i h,tn i h->∀b∈fp,∃o,h.get? b=some o/\∀v,o.data≠ .cell v
 keep:∀i h h',tn i h->(∀b∈fp,∀o,h.get? b=some o->h'.get? b=some o)->tn i h'
 item:∀(X:Cx),X.prog=P->X.w=w->X.K=K->X.calm=true->∀(i:Nat) (pins:List (Addr×Obj)) (s:Shared) (σ:St) (H:Hp) (E:Value->Shared->Prop),Inv X pins σ H s->(∀b∈fp,p8 X pins H b)->tn i s.heap->J.go i H ->
  wpAny (model P w) X.A (pyNext (.ref it)) (fun r s1=>∃u,r=some u /\
   wpAny (model P w) X.A (letOwnedTupleGo tg (.ref it) u) (fun _ s2=>∃x H',Inv X pins σ H' s2/\RelV x u/\J.yld i H x H'/\tn (i+1) s2.heap/\∀b∈fp,H' b=none) E s1) E s
 done:∀(X:Cx),X.prog=P->X.w=w->X.K=K->X.calm=true->∀(i:Nat) (pins:List (Addr×Obj)) (s:Shared) (σ:St) (H:Hp) (E:Value->Shared->Prop),Inv X pins σ H s->(∀b∈fp,p8 X pins H b)->tn i s.heap->J.stop i H ->
  wpAny (model P w) X.A (pyNext (.ref it)) (fun r s1=>r=none/\Inv X pins σ H s1) E s
 self:∀(A:Around) (i:Nat) (s:Shared) (Q:Value->Shared->Prop) (E:Value->Shared->Prop),tn i s.heap->Q (.ref it) s->wpAny (model P w) A (pyIter (.ref it)) Q E s
noncomputable abbrev TI:=St->Hp->(It->Hp->Prop)->Prop
noncomputable def PIE(X:Cx)(pins:List (Addr×Obj))(σ:St)(tg:Expr)(R:It->Hp->Prop)(itv:Value)(s2:Shared):Prop :=
 ∃(it:Addr) (fp:List Addr) (tn:Nat->Heap->Prop) (J:It) (H':Hp),itv = .ref it/\Inv X pins σ H' s2/\Turn X.prog X.w X.K tg J fp it tn/\tn 0 s2.heap/\(∀b∈fp,p8 X pins H' b)/\R J H'
noncomputable def PI(X:Cx)(tg iter:Expr)(wi:TI):Prop :=
 ∀(pins:List (Addr×Obj)) (s:Shared) (σ:St) (H:Hp) (R:It->Hp->Prop),Inv X pins σ H s->wi σ H R ->
  wpAny (model X.prog X.w) X.A (eval iter X.env) (fun v s1=>wpAny (model X.prog X.w) X.A (pyIter v) (PIE X pins σ tg R) X.xe s1) X.xe s
theorem Qj{M:Model}{A:Around}{E:Value->Shared->Prop}{s:Shared}{tg:Expr}{it:Addr}{u:Value}{o:Obj}{n:String}{vs:Array Value}{Q:Unit->Shared->Prop}(ho:s.heap.get? it=some o)(hc:o.cls = .type n)(hd:o.data = .fields vs)
    (hn:["enumerate", "zip", "dict_itemiterator", "dict_reverseitemiterator", "odict_iterator", "itertools.zip_longest", "itertools.pairwise"].contains n=false) (hQ:Q () s):wpAny M A (letOwnedTupleGo tg (.ref it) u) Q E s:=by
  unfold letOwnedTupleGo
  cases tg<;>first
    | exact wpAny_pure hQ
    | (cases u<;>first
        | exact wpAny_pure hQ
        | (refine wpAny_bind (wpAny_load ho ?_)
           rw[hc,hd]
           show wpAny M A (if(["enumerate", "zip", "dict_itemiterator", "dict_reverseitemiterator", "odict_iterator", "itertools.zip_longest", "itertools.pairwise"].contains n&&vs[0]? == some (rawInt _))=true then _ else _) Q E s
           rw[if_neg (by intro h;rw[hn,Bool.false_and]at h;cases h)]
           exact wpAny_pure hQ))
noncomputable def Itl(K:PySem.W.Frag)(a:Addr):It :=
 ⟨fun i H=>∃xs x,SqL K H a xs/\xs[i]?=some x,fun i H x H'=>H'=H/\∀xs,SqL K H a xs->xs[i]?=some x,fun i H=>∃xs,SqL K H a xs/\xs.length<=i⟩
noncomputable def Itt(K:PySem.W.Frag)(a:Addr):It :=
 ⟨fun i H=>∃xs x,SqT K H a xs/\xs[i]?=some x,fun i H x H'=>H'=H/\∀xs,SqT K H a xs->xs[i]?=some x,fun i H=>∃xs,SqT K H a xs/\xs.length<=i⟩
noncomputable def Itr(lo:Int)(n:Nat):It:=⟨fun i _=>i<n,fun i H x H'=>H'=H/\x = .int (lo+i),fun i _=>n<=i⟩
theorem En{P:Program}{w:World}{K:PySem.W.Frag}{tg:Expr}(a it:Addr):Turn P w K tg (Itl K a) [it] it (fun i h=>h.IsListIter it a i) where
 mem:=by simp
 obj:=fun i h st b hb=>by
  have e:b=it:=by simpa using hb
  subst e
  obtain⟨o,e,c,d⟩:=st
  exact⟨o,e,fun v z=>by rw[d]at z;cases z⟩
 keep:=fun i h h' st k=>st.at fun o e=>k it (by simp) o e
 item:=by
  intro X hP hw hK hc i pins s σ H E I hf st hg
  subst hP hw hK
  obtain⟨xs,x,hq,hx⟩:=hg
  obtain⟨its,rv,p,hz⟩:=I.list hq
  obtain⟨u,hu,ru⟩:=rv.get hx
  obtain⟨f0,f1,f2,f3,f4,f5⟩:=hf it (by simp)
  refine wpAny_pyNext_list_item st p.isList (x:=u) (by simpa using hu) fun h' st' sb=>?_
  have I1:Inv X pins σ H { s with heap:=h' }:=I.turned (t':=s.toks) (fun b o hb e=>(sb.2 b hb).trans e) f0 f1 f3 f4 f5
  obtain⟨o,e,c,d⟩:=id st'
  exact⟨u,rfl,Qj (s:={ s with heap:=h' }) e c d (by decide) ⟨x,H,I1,ru,⟨rfl,fun ys hy=>by rw[I.list_inj hy hq];exact hx⟩,st',fun b hb=>(hf b hb).1⟩⟩
 done:=by
  intro X hP hw hK hc i pins s σ H E I hf st hg
  subst hP hw hK
  obtain⟨xs,hq,hx⟩:=hg
  obtain⟨its,rv,p,hz⟩:=I.list hq
  obtain⟨f0,f1,f2,f3,f4,f5⟩:=hf it (by simp)
  have hl:=rv.length
  exact wpAny_pyNext_list_end (I.ok.hd hc) st p.isList (by simp;omega) fun h' eb=>⟨rfl,I.turned (t':=s.toks) (fun b o hb e=>eb b o hb e) f0 f1 f3 f4 f5⟩
 self:=fun _ _ _ _ _ st h=>wpAny_pyIter_listiter st h
theorem Bp{P:Program}{w:World}{K:PySem.W.Frag}{tg:Expr}(a it:Addr):Turn P w K tg (Itt K a) [it] it (fun i h=>h.IsTupleIter it a i) where
 mem:=by simp
 obj:=fun i h st b hb=>by
  have e:b=it:=by simpa using hb
  subst e
  obtain⟨o,e,c,d⟩:=st
  exact⟨o,e,fun v z=>by rw[d]at z;cases z⟩
 keep:=fun i h h' st k=>st.at fun o e=>k it (by simp) o e
 item:=by
  intro X hP hw hK hc i pins s σ H E I hf st hg
  subst hP hw hK
  obtain⟨xs,x,hq,hx⟩:=hg
  obtain⟨its,rv,p,hz⟩:=I.tuple hq
  obtain⟨u,hu,ru⟩:=rv.get hx
  obtain⟨f0,f1,f2,f3,f4,f5⟩:=hf it (by simp)
  refine wpAny_pyNext_tuple_item st (show s.heap.IsTuple a its.toArray from p) (x:=u) (by simpa using hu) fun h' st' sb=>?_
  have I1:Inv X pins σ H { s with heap:=h' }:=I.turned (t':=s.toks) (fun b o hb e=>(sb.2 b hb).trans e) f0 f1 f3 f4 f5
  obtain⟨o,e,c,d⟩:=id st'
  exact⟨u,rfl,Qj (s:={ s with heap:=h' }) e c d (by decide) ⟨x,H,I1,ru,⟨rfl,fun ys hy=>by rw[I.tuple_inj hy hq];exact hx⟩,st',fun b hb=>(hf b hb).1⟩⟩
 done:=by
  intro X hP hw hK hc i pins s σ H E I hf st hg
  subst hP hw hK
  obtain⟨xs,hq,hx⟩:=hg
  obtain⟨its,rv,p,hz⟩:=I.tuple hq
  obtain⟨f0,f1,f2,f3,f4,f5⟩:=hf it (by simp)
  have hl:=rv.length
  exact wpAny_pyNext_tuple_end (I.ok.hd hc) st (show s.heap.IsTuple a its.toArray from p) (by simp;omega) fun h' eb=>⟨rfl,I.turned (t':=s.toks) (fun b o hb e=>eb b o hb e) f0 f1 f3 f4 f5⟩
 self:=fun _ _ _ _ _ st h=>wpAny_pyIter_tupleiter st h
theorem Ka{P:Program}{w:World}{K:PySem.W.Frag}{tg:Expr}(it:Addr)(lo:Int)(n:Nat):Turn P w K tg (Itr lo n) [it] it (fun i h=>IsRangeIter h it (lo +(i:Nat)*1) ((n:Int)-(i:Nat)) 1) where
 mem:=by simp
 obj:=fun i h st b hb=>by
  have e:b=it:=by simpa using hb
  subst e
  exact⟨_,st,fun v z=>by
   have z':Data.fields _=Data.cell v:=z
   cases z'⟩
 keep:=fun i h h' st k=>k it (by simp) _ st
 item:=by
  intro X hP hw hK hc i pins s σ H E I hf st hg
  subst hP hw hK
  obtain⟨f0,f1,f2,f3,f4,f5⟩:=hf it (by simp)
  have W:=Walks.range (prog:=X.prog) (w:=X.w) (I.ok.hd hc) it lo 1 n
  refine W.item i s _ _ hg st fun v h' tk hv st' kk=>?_
  obtain⟨t,rfl⟩:=hv
  have I1:Inv X pins σ H { s with heap:=h',toks:=tk }:=I.turned (fun b o hb e=>kk b o (by simpa using hb) e) f0 f1 f3 f4 f5
  refine⟨_,rfl,Qj (s:={ s with heap:=h',toks:=tk }) (n := "range_iterator") st' rfl rfl (by decide) ⟨.int (lo+i),H,I1,⟨t,?_⟩,⟨rfl,rfl⟩,st',fun b hb=>(hf b hb).1⟩⟩
  rw[Int.mul_one]
 done:=by
  intro X hP hw hK hc i pins s σ H E I hf st hg
  subst hP hw hK
  obtain⟨f0,f1,f2,f3,f4,f5⟩:=hf it (by simp)
  exact wpAny_pyNext_range_end (I.ok.hd hc) st (by have:n<=i:=hg;omega) fun h' eb=>⟨rfl,I.turned (t':=s.toks) (fun b o hb e=>eb b o hb e) f0 f1 f3 f4 f5⟩
 self:=fun _ _ _ _ _ st h=>wpAny_pyIter_rangeiter st h
section
variable{X:Cx}{tg:Expr}
noncomputable def Yf(K:PySem.W.Frag)(tl:TE):TI:=fun σ H R=>tl σ H fun x H1=>∃a,x = .ref a/\(∃xs,SqL K H1 a xs)/\R (Itl K a) H1
noncomputable def Yv(K:PySem.W.Frag)(tl:TE):TI:=fun σ H R=>tl σ H fun x H1=>∃a,x = .ref a/\(∃xs,SqT K H1 a xs)/\R (Itt K a) H1
theorem Tr{l:Expr}{tl:TE}(hl:PE X l tl):PI X tg l (Yf X.K tl):=by
 intro pins s σ H R I h
 refine thn (hl pins s σ H _ I h) fun v s1 ⟨x,H1,I1,r1,q1⟩=>?_
 obtain⟨a,e,⟨xs,hq⟩,q⟩:=q1
 subst e
 cases r1
 obtain⟨its,rv,p,hz⟩:=I1.list hq
 refine wpAny_pyIter_list p.isList ?_
 refine⟨s1.heap.objs.size,[s1.heap.objs.size],_,_,H1,rfl,I1.kept (t':=s1.toks) fun b o e=>Heap.get?_push_of_some _ e,En a _,⟨_,Heap.get?_push_size _ rfl,rfl,rfl⟩,fun b hb=>?_,q⟩
 have e:b=s1.heap.objs.size:=by simpa using hb
 subst e
 exact I1.fpOk (Nat.le_refl _) (I1.hok.fresh (Nat.le_refl _))
theorem Xa{l:Expr}{tl:TE}(hl:PE X l tl):PI X tg l (Yv X.K tl):=by
 intro pins s σ H R I h
 refine thn (hl pins s σ H _ I h) fun v s1 ⟨x,H1,I1,r1,q1⟩=>?_
 obtain⟨a,e,⟨xs,hq⟩,q⟩:=q1
 subst e
 cases r1
 obtain⟨its,rv,p,hz⟩:=I1.tuple hq
 refine wpAny_pyIter_tuple (show s1.heap.IsTuple a its.toArray from p) ?_
 refine⟨s1.heap.objs.size,[s1.heap.objs.size],_,_,H1,rfl,I1.kept (t':=s1.toks) fun b o e=>Heap.get?_push_of_some _ e,Bp a _,⟨_,Heap.get?_push_size _ rfl,rfl,rfl⟩,fun b hb=>?_,q⟩
 have e:b=s1.heap.objs.size:=by simpa using hb
 subst e
 exact I1.fpOk (Nat.le_refl _) (I1.hok.fresh (Nat.le_refl _))
theorem Pn{pins:List (Addr×Obj)}{σ:St}{H:Hp}{s:Shared}{R:It->Hp->Prop}{E:Value->Shared->Prop}{lo hi:Int}{t u v:Tok}{tk:Nat}(I:Inv X pins σ H s)(h1:-(2^62)<=lo)(h2:lo<2^62)(h3:-(2^62)<=hi)(h4:hi<2^62)
  (q:R (Itr lo (hi-lo).toNat) H):wpAny (model X.prog X.w) X.A (pyIter (.ref s.heap.objs.size)) (PIE X pins σ tg R) E { s with heap:=s.heap.push { cls:=.type "range",data:=.fields #[.int lo t,.int hi u,.int 1 v] },toks:=tk }:=by
 refine wpAny_pyIter_range (IsRange.new ..) (small_one h1 h2 h3 h4) ?_
 have I1:Inv X pins σ H { s with heap:=s.heap.push { cls:=.type "range",data:=.fields #[.int lo t,.int hi u,.int 1 v] },toks:=tk }:=I.kept fun b o e=>Heap.get?_push_of_some _ e
 refine⟨(s.heap.push { cls:=.type "range",data:=.fields #[.int lo t,.int hi u,.int 1 v] }).objs.size,[(s.heap.push { cls:=.type "range",data:=.fields #[.int lo t,.int hi u,.int 1 v] }).objs.size],_,_,H,rfl,
  I1.kept (t':=tk) fun b o e=>Heap.get?_push_of_some _ e,Ka _ lo (hi-lo).toNat,?_,fun b hb=>?_,q⟩
 ·have e1:lo +((0:Nat):Int)*1=lo:=by simp
  have e2:(((hi-lo).toNat:Nat):Int)-((0:Nat):Int)=Builtin.Range.rangeSize lo hi 1:=by rw[rangeSize_one];split<;>omega
  show IsRangeIter _ _ (lo +((0:Nat):Int)*1) ((((hi-lo).toNat:Nat):Int)-((0:Nat):Int)) 1
  rw[e1,e2]
  exact Heap.get?_push_size _ rfl
 ·have e:b =(s.heap.push { cls:=.type "range",data:=.fields #[.int lo t,.int hi u,.int 1 v] }).objs.size:=by simpa using hb
  subst e
  exact I1.fpOk (Nat.le_refl _) (I1.hok.fresh (Nat.le_refl _))
noncomputable def Wz(ta:TA):TI:=fun σ H R=>ta σ H fun vs H1=>∃j:Int,vs = [.int j]/\-(2^62)<=j/\j<2^62/\R (Itr 0 j.toNat) H1
theorem Oi{a:Expr}{ta:TA}{p pos:Pos}(hg:Gl X "range")(hm:X.mg "range" = none)(ha:PA X [a] ta)(hs:starEach [a] X.env = [(false,eval a X.env)]:=by rfl):PI X tg (.Call (.Name "range" p) [a] [] pos) (Wz ta):=by
 intro pins s σ H R I h
 refine Call_ (g9 I hg hm boot_range (PyProof.Rows.callWith_type1 (thn (ha pos pins s σ H _ I h) fun us s1 ⟨vs,H1,I1,r1,q1⟩=>?_) hs rfl))
 obtain⟨j,e,q1,q2,q⟩:=q1
 subst e
 cases r1 with
 | cons r rr =>
  cases rr
  obtain⟨t,rfl⟩:=r
  exact call_range_1 (Pn I1 (by omega) (by omega) q1 q2 (by simpa using q))
noncomputable def zBi(wi:TI)(g:TG)(tb:TS):TS:=fun D σ H=>wi σ H fun J H1=>∃W:Nat->Nat->St->Hp->Prop,(∃m,W 0 m σ H1)/\∀i m σ H,W i m σ H ->
 (J.stop i H/\D.nx σ H)\/(J.go i H/\∃N:St->Hp->Prop,(∀σ' H',N σ' H'->∃m',m' < m/\W (i+1) m' σ' H')/\∀x H',J.yld i H x H'->g x σ H' fun σ2 H2=>tb { D with nx:=N,ct:=N,bk:=D.nx } σ2 H2)
noncomputable def Dr(fp:List Addr)(h:Heap):List (Addr×Obj):=fp.filterMap fun b=>(h.get? b).map fun o=>(b,o)
theorem R9{fp:List Addr}{h:Heap}{b:Addr}{o:Obj}(hb:b∈fp)(e:h.get? b=some o):(b,o)∈Dr fp h:=List.mem_filterMap.mpr ⟨b,hb,by rw[e];rfl⟩
theorem Mp{fp:List Addr}{h:Heap}{p:Addr×Obj}(hp:p∈Dr fp h):p.1∈fp/\h.get? p.1=some p.2:=by
 obtain⟨b,hb,e⟩:=List.mem_filterMap.mp hp
 cases q:h.get? b with
 | none=>rw[q]at e;cases e
 | some o =>
  rw[q]at e
  have e':(b,o)=p:=Option.some.inj e
  subst e'
  exact⟨hb,q⟩
theorem Inv.pinned{pins:List (Addr×Obj)}{σ:St}{H:Hp}{s:Shared}{fp:List Addr}(I:Inv X pins σ H s)(hf:∀b∈fp,p8 X pins H b)(ho:∀b∈fp,∃o,s.heap.get? b=some o/\∀v,o.data≠ .cell v):Inv X (pins++Dr fp s.heap) σ H s :=
 I.pins_of fun p hp=>(List.mem_append.mp hp).elim (fun z=>I.pin p (List.mem_append_right _ z)) fun z=>by
  obtain⟨hb,e⟩:=Mp z
  obtain⟨f0,f1,f2,_⟩:=hf p.1 hb
  obtain⟨o,e',d⟩:=ho p.1 hb
  rw[e]at e';cases e'
  exact⟨e,f0,f1,f2,d⟩
theorem Inv.unpinned{pins pl:List (Addr×Obj)}{σ:St}{H:Hp}{s:Shared}(I:Inv X (pins++pl) σ H s):Inv X pins σ H s:=I.pins_of fun p hp=>I.pin p (List.mem_append_right _ (List.mem_append_left _ hp))
theorem M9{iter:Expr}{body:List Stmt}{wi:TI}{g:TG}{tb:TS}{pos:Pos}(hp:PassesOwn (model X.prog X.w) X.A X.env X.xe)(hc:X.calm=true)(hi:PI X tg iter wi)(hg:PG X tg g)(hb:PSs X body tb)
  (hs:∀x,foldedSetIterable iter X.env x=pure x:=by intro _;rfl):PS X (.For tg iter body [] pos) (zBi wi g tb):=by
 intro pins s σ H D I h
 refine wpAny_For (thn (hi pins s σ H _ I h) fun v s1 h1=>thn h1 fun itv s2 h2=>?_) hs
 obtain⟨it,fp,tn,J,H2,e,I2,T,st2,f2,W,⟨m0,w0⟩,turn⟩:=h2
 subst e
 have stat:∀{H':Hp},(∀b∈fp,H' b=none)->∀b∈fp,p8 X pins H' b:=fun hn b hb=>⟨hn b hb,(f2 b hb).2⟩
 refine codeAny_forLoop_any (fun n s'=>∃i σ' H',Inv X pins σ' H' s'/\tn i s'.heap/\(∀b∈fp,H' b=none)/\W i n σ' H') ?_ m0 ⟨0,σ,H2,I2,st2,fun b hb=>(f2 b hb).1,w0⟩
 rintro n s3 ⟨i,σ3,H3,I3,st3,fr3,w3⟩
 rcases turn i n σ3 H3 w3 with⟨stop,qn⟩ | ⟨go,N,hN,step⟩
 ·refine wpAny_passesOwn hp (thn (T.done X rfl rfl rfl hc i pins s3 σ3 H3 X.xe I3 (stat fr3) st3 stop) fun r s4 ⟨hr,I4⟩=>?_)
  subst hr
  exact wpAny_execs_nil ⟨σ3,H3,I4,qn⟩
 ·refine wpAny_passesOwn hp (thn (T.item X rfl rfl rfl hc i pins s3 σ3 H3 X.xe I3 (stat fr3) st3 go) fun r s4 ⟨u,hr,h4⟩=>?_)
  subst hr
  refine wpAny_passesOwn hp (thn h4 fun _ s5 ⟨x,H5,I5,r5,y5,st5,fr5⟩=>?_)
  have I5':=I5.pinned (stat fr5) (T.obj _ _ st5)
  refine wpAny_passesOwn hp (thn (hg _ s5 σ3 H5 x u _ I5' r5 (step x H5 y5)) fun _ s6 ⟨σ6,H6,I6,q6⟩=>?_)
  refine wpAny_passesOwn hp (thn (hb _ s6 σ6 H6 _ I6 q6) fun f s7 q7=>?_)
  have again:∀{σ7:St} {H7:Hp},Inv X (pins++Dr fp s5.heap) σ7 H7 s7->N σ7 H7->∃m,m<n/\∃i σ' H',Inv X pins σ' H' s7/\tn i s7.heap/\(∀b∈fp,H' b=none)/\W i m σ' H':=fun{σ7 H7} I7 n7=>by
   obtain⟨m',hm,w7⟩:=hN σ7 H7 n7
   refine⟨m',hm,i+1,σ7,H7,I7.unpinned,T.keep _ _ _ st5 fun b hb o e=>(I7.pin (b,o) (List.mem_append_right _ (List.mem_append_right _ (R9 hb e)))).1,fun b hb=>?_,w7⟩
   obtain⟨o,e,d⟩:=T.obj _ _ st5 b hb
   exact(I7.pin (b,o) (List.mem_append_right _ (List.mem_append_right _ (R9 hb e)))).2.1
  cases f with
  | next=>obtain⟨σ7,H7,I7,n7⟩:=q7;exact again I7 n7
  | cont=>obtain⟨σ7,H7,I7,n7⟩:=q7;exact again I7 n7
  | brk=>obtain⟨σ7,H7,I7,q7⟩:=q7;exact⟨σ7,H7,I7.unpinned,q7⟩
  | ret v=>obtain⟨x7,σ7,H7,I7,r7,q7⟩:=q7;exact⟨x7,σ7,H7,I7.unpinned,r7,q7⟩
end
theorem Ni{lo:Int}{n:Nat}{g:TG}{tb:TS}{D:Ends}{σ:St}{H:Hp}(Pv:Nat->St->Hp->Prop)(h0:Pv 0 σ H)
  (hs:∀i σ H,i<n->Pv i σ H->g (.int (lo+i)) σ H fun σ2 H2=>tb { D with nx:=Pv (i+1),ct:=Pv (i+1),bk:=D.nx } σ2 H2) (hd:∀σ H,Pv n σ H->D.nx σ H) :
  ∃W:Nat->Nat->St->Hp->Prop,(∃m,W 0 m σ H)/\∀i m σ H,W i m σ H ->
   ((Itr lo n).stop i H/\D.nx σ H)\/((Itr lo n).go i H/\∃N:St->Hp->Prop,(∀σ' H',N σ' H'->∃m',m' < m/\W (i+1) m' σ' H')/\∀x H',(Itr lo n).yld i H x H'->g x σ H' fun σ2 H2=>tb { D with nx:=N,ct:=N,bk:=D.nx } σ2 H2):=by
 refine⟨fun i m σ H=>m=n-i/\i<=n/\Pv i σ H,⟨n,by simp,Nat.zero_le _,h0⟩,?_⟩
 rintro i m σ H ⟨rfl,hi,p⟩
 by_cases hlt:i<n
 ·refine .inr ⟨hlt,Pv (i+1),fun σ' H' p'=>⟨n-(i+1),by omega,rfl,hlt,p'⟩,fun x H' y=>?_⟩
  obtain⟨e,y⟩:=y
  subst e y
  exact hs i σ _ hlt p
 ·have e:i=n:=by omega
  subst e
  exact .inl ⟨Nat.le_refl _,hd σ H p⟩
noncomputable abbrev R2:=V->V->Hp->VK->Prop
noncomputable def OpR(X:Cx)(f:Value->Value->Sem Value)(r:R2):Prop :=
 ∀(pins:List (Addr×Obj)) (s:Shared) (σ:St) (H:Hp) (x y:V) (v u:Value) (Q:VK),Inv X pins σ H s->RelV x v->RelV y u->r x y H Q ->
  wpAny (model X.prog X.w) X.A (f v u) (EP X pins σ Q) X.xe s
noncomputable def UnR(X:Cx)(f:Value->Sem Value)(r:V->Hp->VK->Prop):Prop :=
 ∀(pins:List (Addr×Obj)) (s:Shared) (σ:St) (H:Hp) (x:V) (v:Value) (Q:VK),Inv X pins σ H s->RelV x v->r x H Q ->
  wpAny (model X.prog X.w) X.A (f v) (EP X pins σ Q) X.xe s
noncomputable def G5(X:Cx)(f:Value)(r:List V->Hp->VK->Prop):Prop :=
 ∀(pins:List (Addr×Obj)) (s:Shared) (σ:St) (H:Hp) (xs:List V) (us:List Value) (Q:VK),Inv X pins σ H s->Vals xs us->r xs H Q ->
  wpAny (model X.prog X.w) X.A (call f us) (EP X pins σ Q) X.xe s
noncomputable def tOp(r:R2)(ta tb:TE):TE:=fun σ H Q=>ta σ H fun x H1=>tb σ H1 fun y H2=>r x y H2 Q
noncomputable def tUn(r:V->Hp->VK->Prop)(ta:TE):TE:=fun σ H Q=>ta σ H fun x H1=>r x H1 Q
noncomputable def rI(C:Int->Int->Prop)(g:Int->Int->V):R2:=fun x y H Q=>∃i j,x = .int i/\y = .int j/\C i j/\Q (g i j) H
noncomputable def rI0(g:Int->Int->V):R2:=fun x y H Q=>∃i j,x = .int i/\y = .int j/\Q (g i j) H
noncomputable def rU(g:Int->V):V->Hp->VK->Prop:=fun x H Q=>∃i,x = .int i/\Q (g i) H
section
variable{X:Cx}{a b c:Expr}{ta tb tc:TE}{pos:Pos}
theorem Ys(ha:PE X a ta)(hb:PE X b tb){pins:List (Addr×Obj)}{s:Shared}{σ:St}{H:Hp}{R:V->V->Hp->Prop}(I:Inv X pins σ H s)
  (h:ta σ H fun x H1=>tb σ H1 fun y H2=>R x y H2) {Q:Value->Shared->Prop} {f:Value->Value->Sem Value}
  (hf:∀v u s2 x y H2,Inv X pins σ H2 s2->RelV x v->RelV y u->R x y H2->wpAny (model X.prog X.w) X.A (f v u) Q X.xe s2) :
  wpAny (model X.prog X.w) X.A (eval a X.env) (fun v s₁=>wpAny (model X.prog X.w) X.A (eval b X.env) (fun u s₂=>wpAny (model X.prog X.w) X.A (f v u) Q X.xe s₂) X.xe s₁) X.xe s:=by
 refine thn (ha pins s σ H _ I h) fun v s1 ⟨x,H1,I1,r1,q1⟩=>?_
 refine thn (hb pins s1 σ H1 _ I1 q1) fun u s2 ⟨y,H2,I2,r2,q2⟩=>?_
 exact hf v u s2 x y H2 I2 r1 r2 q2
theorem E4{op:Operator}{r:R2}(ho:OpR X (binaryOp op) r)(ha:PE X a ta)(hb:PE X b tb):PE X (.BinOp a op b pos) (tOp r ta tb):=by
 intro pins s σ H Q I h
 exact wpAny_BinOp (Ys ha hb I h fun v u s2 x y H2 I2 rx ry q=>ho pins s2 σ H2 x y v u Q I2 rx ry q)
theorem zAd{op:UnaryOp}{r:V->Hp->VK->Prop}(ho:UnR X (unaryOp op) r)(ha:PE X a ta):PE X (.UnaryOp op a pos) (tUn r ta):=by
 intro pins s σ H Q I h
 exact UnaryOp_ (thn (ha pins s σ H _ I h) fun v s1 ⟨x,H1,I1,r1,q1⟩=>ho pins s1 σ H1 x v Q I1 r1 q1)
theorem opI{f:Value->Value->Sem Value}{C:Int->Int->Prop}{g:Int->Int->Int}
  (rule:∀(i j:Int) (t u:Tok) (s:Shared) (Q:Value->Shared->Prop) (E:Value->Shared->Prop),C i j->Q (.int (g i j) s.toks) { s with toks:=s.toks+1 }->wpAny (model X.prog X.w) X.A (f (.int i t) (.int j u)) Q E s) :
  OpR X f (rI C fun i j=>.int (g i j)):=by
 intro pins s σ H x y v u Q I rx ry h
 obtain⟨i,j,rfl,rfl,hc,q⟩:=h
 obtain⟨t,rfl⟩:=rx
 obtain⟨t',rfl⟩:=ry
 exact rule i j t t' s _ _ hc ⟨.int (g i j),H,I.tok _,⟨_,rfl⟩,q⟩
theorem zAe{f:Value->Value->Sem Value}{g:Int->Int->Int}
  (rule:∀(i j:Int) (t u:Tok) (s:Shared) (Q:Value->Shared->Prop) (E:Value->Shared->Prop),Q (.int (g i j) s.toks) { s with toks:=s.toks+1 }->wpAny (model X.prog X.w) X.A (f (.int i t) (.int j u)) Q E s) :
  OpR X f (rI0 fun i j=>.int (g i j)):=by
 intro pins s σ H x y v u Q I rx ry h
 obtain⟨i,j,rfl,rfl,q⟩:=h
 obtain⟨t,rfl⟩:=rx
 obtain⟨t',rfl⟩:=ry
 exact rule i j t t' s _ _ ⟨.int (g i j),H,I.tok _,⟨_,rfl⟩,q⟩
theorem Yn{f:Value->Value->Sem Value}{g:Int->Int->Bool}
  (rule:∀(i j:Int) (t u:Tok) (s:Shared) (Q:Value->Shared->Prop) (E:Value->Shared->Prop),Q (.bool (g i j)) s->wpAny (model X.prog X.w) X.A (f (.int i t) (.int j u)) Q E s) :
  OpR X f (rI0 fun i j=>.bl (g i j)):=by
 intro pins s σ H x y v u Q I rx ry h
 obtain⟨i,j,rfl,rfl,q⟩:=h
 obtain⟨t,rfl⟩:=rx
 obtain⟨t',rfl⟩:=ry
 exact rule i j t t' s _ _ ⟨.bl (g i j),H,I,rfl,q⟩
noncomputable def zBq(i j:Int):Prop:=0<j/\j<1073741824
noncomputable def zAn(i j:Int):Prop:=0<=j/\j<=1000000/\i.natAbs<2^64
noncomputable def CMul(i j:Int):Prop:=(-(2^64)<i/\i<2^64)\/(-(2^64)<j/\j<2^64)
theorem CMul.ok{i j:Int}(h:CMul i j):IntMulOk i j:=by
 rcases h with⟨h1,h2⟩ | ⟨h1,h2⟩
 ·exact .of_left (intBits_le_64 h1 h2)
 ·exact .of_right (intBits_le_64 h1 h2)
theorem Kt(k:Nat):(0:Int)<=2^k:=by
 rw[two_pow_cast]
 exact Int.natCast_nonneg _
theorem l5:OpR X (binaryOp .Add) (rI0 fun i j=>.int (i+j)):=zAe fun _ _ _ _ _ _ _ q=>add_int q
theorem Bs:OpR X (binaryOp .Mult) (rI CMul fun i j=>.int (i*j)):=opI fun _ _ _ _ _ _ _ hc q=>mul_int q hc.ok
theorem Hl:OpR X (binaryOp .FloorDiv) (rI zBq fun i j=>.int (i / j)):=opI fun i j _ _ _ _ _ hc q=>by
 have h1:(0:Int)<j:=hc.1
 have h2:j<1073741824:=hc.2
 exact floordiv_int (by omega) (by rw[Int.fdiv_eq_ediv_of_nonneg i (by omega)];exact q) (.inl (PyProof.noPylong_small (by omega)))
theorem Bk:OpR X (binaryOp .Mod) (rI (fun _ j=>0<j) fun i j=>.int (i % j)):=opI fun i j _ _ _ _ _ hc q=>by
 have h1:(0:Int)<j:=hc
 exact mod_int' (by omega) (by rw[Int.fmod_eq_emod_of_nonneg i (by omega)];exact q)
theorem Wb:OpR X (binaryOp .Pow) (rI zAn fun i j=>.int (i^j.toNat)):=opI fun _ _ _ _ _ _ _ hc q=>pow_int_small hc.1 hc.2.1 hc.2.2 q
theorem y0:OpR X (binaryOp .LShift) (rI zAn fun i j=>.int (i*2^j.toNat)):=opI fun _ _ _ _ _ _ _ hc q=>lshift_int_small hc.1 hc.2.1 hc.2.2 q
theorem Sf:OpR X (binaryOp .RShift) (rI (fun _ j=>0<=j) fun i j=>.int (i / 2^j.toNat)):=opI fun i j _ _ _ _ _ hc q =>
 rshift_int hc (by rw[Int.fdiv_eq_ediv_of_nonneg i (Kt _)];exact q)
theorem Ie:OpR X (binaryOp .BitAnd) (rI0 fun i j=>.int (Builtin.bitAnd i j)):=zAe fun _ _ _ _ _ _ _ q=>and_int q
theorem Et:OpR X (binaryOp .BitOr) (rI0 fun i j=>.int (Builtin.bitOr i j)):=zAe fun _ _ _ _ _ _ _ q=>or_int q
theorem unI{f:Value->Sem Value}{g:Int->Int}
  (rule:∀(i:Int) (t:Tok) (s:Shared) (Q:Value->Shared->Prop) (E:Value->Shared->Prop),Q (.int (g i) s.toks) { s with toks:=s.toks+1 }->wpAny (model X.prog X.w) X.A (f (.int i t)) Q E s) :
  UnR X f (rU fun i=>.int (g i)):=by
 intro pins s σ H x v Q I rx h
 obtain⟨i,rfl,q⟩:=h
 obtain⟨t,rfl⟩:=rx
 exact rule i t s _ _ ⟨.int (g i),H,I.tok _,⟨_,rfl⟩,q⟩
theorem Xi:UnR X (unaryOp .Invert) (rU fun i=>.int (Builtin.bitNot i)):=unI fun _ _ _ _ _ q=>invert_int q
end
noncomputable def zBa:V->V->Bool
 | .non,.non=>true | .non,.int _=>true | .int _,.non=>true | .non,.bl _=>true | .bl _,.non=>true | .non,.str _=>true | .str _,.non=>true
 | .int _,.int _=>true | .bl _,.bl _=>true | .str _,.str _=>true | .byt _,.byt _=>true
 | .int _,.str _=>true | .str _,.int _=>true | .bl _,.str _=>true | .str _,.bl _=>true
 | _,_=>false
noncomputable def rEq:R2:=fun x y H Q=>zBa x y=true/\Q (.bl (decide (x=y))) H
noncomputable def rNe:R2:=fun x y H Q=>zBa x y=true/\Q (.bl (!decide (x=y))) H
theorem Lm{i j:Int}:decide (V.int i=V.int j) =(i == j):=by
 rw[Bool.eq_iff_iff]
 simp
theorem Fq{i j:Bool}:decide (V.bl i=V.bl j) =(i == j):=by
 rw[Bool.eq_iff_iff]
 simp
theorem Z7{i j:Str}:decide (V.str i=V.str j) =(i == j):=by
 rw[Bool.eq_iff_iff]
 simp
theorem Mi{i j:Array UInt8}:decide (V.byt i=V.byt j) =(i.toList == j.toList):=by
 rw[Bool.eq_iff_iff]
 cases i
 cases j
 simp
section
variable{X:Cx}{a b c:Expr}{ta tb tc:TE}{pos:Pos}
theorem E5{pins:List (Addr×Obj)}{σ:St}{H:Hp}{s:Shared}{Q:VK}{k k':Bool}(I:Inv X pins σ H s)(q:Q (.bl k) H)(e:k=k'):EP X pins σ Q (.bool k') s:=by
 subst e
 exact⟨.bl k,H,I,rfl,q⟩
theorem Q3:OpR X (compareOp .Eq) rEq:=by
 intro pins s σ H x y v u Q I rx ry h
 obtain⟨hs,q⟩:=h
 cases x with
 | non =>
  cases rx
  cases y with
  | non=>cases ry;exact PySem.EqNone.eq_none_none (E5 I q (by simp))
  | bl j=>cases ry;exact PySem.EqNone.eq_none_bool (E5 I q (by simp))
  | int j=>obtain⟨t',rfl⟩:=ry;exact PySem.EqNone.eq_none_int (E5 I q (by simp))
  | str j=>obtain⟨t',rfl⟩:=ry;exact PySem.EqNone.eq_none_str (E5 I q (by simp))
  | _=>exact absurd (show false=true from hs) Bool.false_ne_true
 | bl i =>
  cases rx
  cases y with
  | non=>cases ry;exact PySem.EqNone.eq_bool_none (E5 I q (by simp))
  | bl j=>cases ry;exact eq_bool (E5 I q Fq)
  | str j=>obtain⟨t',rfl⟩:=ry;exact PySem.EqMixed.eq_bool_str (E5 I q (by simp))
  | _=>exact absurd (show false=true from hs) Bool.false_ne_true
 | int i =>
  obtain⟨t,rfl⟩:=rx
  cases y with
  | non=>cases ry;exact PySem.EqNone.eq_int_none (E5 I q (by simp))
  | int j=>obtain⟨t',rfl⟩:=ry;exact eq_int (E5 I q Lm)
  | str j=>obtain⟨t',rfl⟩:=ry;exact PySem.EqMixed.eq_int_str (E5 I q (by simp))
  | _=>exact absurd (show false=true from hs) Bool.false_ne_true
 | str i =>
  obtain⟨t,rfl⟩:=rx
  cases y with
  | non=>cases ry;exact PySem.EqNone.eq_str_none (E5 I q (by simp))
  | bl j=>cases ry;exact PySem.EqMixed.eq_str_bool (E5 I q (by simp))
  | int j=>obtain⟨t',rfl⟩:=ry;exact PySem.EqMixed.eq_str_int (E5 I q (by simp))
  | str j=>obtain⟨t',rfl⟩:=ry;exact eq_str (E5 I q Z7)
  | _=>exact absurd (show false=true from hs) Bool.false_ne_true
 | byt i =>
  obtain⟨t,rfl⟩:=rx
  cases y with
  | byt j=>obtain⟨t',rfl⟩:=ry;exact PySem.W.eq_bytes (E5 I q Mi)
  | _=>exact absurd (show false=true from hs) Bool.false_ne_true
 | _=>cases y<;>exact absurd (show false=true from hs) Bool.false_ne_true
theorem Ma:OpR X (compareOp .NotEq) rNe:=by
 intro pins s σ H x y v u Q I rx ry h
 obtain⟨hs,q⟩:=h
 cases x with
 | non =>
  cases rx
  cases y with
  | non=>cases ry;exact PySem.EqNone.ne_none_none (E5 I q (by simp))
  | bl j=>cases ry;exact PySem.EqNone.ne_none_bool (E5 I q (by simp))
  | int j=>obtain⟨t',rfl⟩:=ry;exact PySem.EqNone.ne_none_int (E5 I q (by simp))
  | str j=>obtain⟨t',rfl⟩:=ry;exact PySem.EqNone.ne_none_str (E5 I q (by simp))
  | _=>exact absurd (show false=true from hs) Bool.false_ne_true
 | bl i =>
  cases rx
  cases y with
  | non=>cases ry;exact PySem.EqNone.ne_bool_none (E5 I q (by simp))
  | bl j=>cases ry;exact ne_bool (E5 I q (congrArg not Fq))
  | str j=>obtain⟨t',rfl⟩:=ry;exact PySem.EqMixed.ne_bool_str (E5 I q (by simp))
  | _=>exact absurd (show false=true from hs) Bool.false_ne_true
 | int i =>
  obtain⟨t,rfl⟩:=rx
  cases y with
  | non=>cases ry;exact PySem.EqNone.ne_int_none (E5 I q (by simp))
  | int j=>obtain⟨t',rfl⟩:=ry;exact ne_int (E5 I q (congrArg not Lm))
  | str j=>obtain⟨t',rfl⟩:=ry;exact PySem.EqMixed.ne_int_str (E5 I q (by simp))
  | _=>exact absurd (show false=true from hs) Bool.false_ne_true
 | str i =>
  obtain⟨t,rfl⟩:=rx
  cases y with
  | non=>cases ry;exact PySem.EqNone.ne_str_none (E5 I q (by simp))
  | bl j=>cases ry;exact PySem.EqMixed.ne_str_bool (E5 I q (by simp))
  | int j=>obtain⟨t',rfl⟩:=ry;exact PySem.EqMixed.ne_str_int (E5 I q (by simp))
  | str j=>obtain⟨t',rfl⟩:=ry;exact ne_str (E5 I q (congrArg not Z7))
  | _=>exact absurd (show false=true from hs) Bool.false_ne_true
 | byt i =>
  obtain⟨t,rfl⟩:=rx
  cases y with
  | byt j=>obtain⟨t',rfl⟩:=ry;exact PySem.W.ne_bytes (E5 I q (congrArg not Mi))
  | _=>exact absurd (show false=true from hs) Bool.false_ne_true
 | _=>cases y<;>exact absurd (show false=true from hs) Bool.false_ne_true
theorem Zk:OpR X (compareOp .Lt) (rI0 fun i j=>.bl (decide (i<j))):=Yn fun _ _ _ _ _ _ _ q=>lt_int q
theorem Xy:OpR X (compareOp .LtE) (rI0 fun i j=>.bl (decide (i<=j))):=Yn fun _ _ _ _ _ _ _ q=>le_int q
theorem Yh:OpR X (compareOp .Gt) (rI0 fun i j=>.bl (decide (j<i))):=Yn fun _ _ _ _ _ _ _ q=>gt_int q
theorem Zl:OpR X (compareOp .GtE) (rI0 fun i j=>.bl (decide (j<=i))):=Yn fun _ _ _ _ _ _ _ q=>ge_int q
theorem Nx:OpR X (compareOp .In) (fun x y H Q=>∃i j,x = .str i/\y = .str j/\Q (.bl (!(Builtin.Str.occurrences j i 0 j.length 1).isEmpty)) H):=by
 intro pins s σ H x y v u Q I rx ry h
 obtain⟨i,j,rfl,rfl,q⟩:=h
 obtain⟨t,rfl⟩:=rx
 obtain⟨t',rfl⟩:=ry
 exact in_str (E5 I q rfl)
theorem Yb:OpR X (compareOp .Is) (fun x y H Q=>y = .non/\Q (.bl (decide (x = .non))) H):=by
 intro pins s σ H x y v u Q I rx ry h
 obtain⟨rfl,q⟩:=h
 cases ry
 refine is_none_gen (E5 I q ?_)
 cases x<;>first
  | (cases rx;rfl)
  | (obtain⟨t,rfl⟩:=rx;rfl)
theorem E3(b:Expr){op:CmpOp}(h:op≠ .In:=by decide)(h2:op≠ .NotIn:=by decide):behindInMarks op b=false:=by
 have e1:(op == CmpOp.In)=false:=by cases op<;>first | rfl | exact absurd rfl h
 have e2:(op == CmpOp.NotIn)=false:=by cases op<;>first | rfl | exact absurd rfl h2
 cases b<;>simp[behindInMarks,e1,e2]
theorem C9{op:CmpOp}{r:R2}(ho:OpR X (compareOp op) r)(ha:PE X a ta)(hb:PE X b tb)(hm:behindInMarks op b=false):PE X (.Compare a [op] [b] pos) (tOp r ta tb):=by
 intro pins s σ H Q I h
 exact wpAny_Compare1 (Ys ha hb I h fun v u s2 x y H2 I2 rx ry q=>ho pins s2 σ H2 x y v u Q I2 rx ry q) hm
noncomputable def Uw(t:TE):TT:=fun σ H Q=>t σ H fun x H'=>∃k,x = .bl k/\Q k H'
theorem C4{op:CmpOp}{r:R2}(ho:OpR X (compareOp op) r)(ha:PE X a ta)(hb:PE X b tb)(hm:behindInMarks op b=false):PT X (.Compare a [op] [b] pos) (Uw (tOp r ta tb)):=by
 intro pins s σ H Q I h
 refine wpAny_isTrue_Compare1 (thn (ha pins s σ H _ I h) fun v s1 ⟨x,H1,I1,r1,q1⟩=>thn (hb pins s1 σ H1 _ I1 q1) fun u s2 ⟨y,H2,I2,r2,q2⟩ =>
  thn (ho pins s2 σ H2 x y v u _ I2 r1 r2 q2) fun c s3 ⟨z,H3,I3,r3,k,e,q3⟩=>?_) hm
 subst e
 cases r3
 exact wpAny_truthy_bool ⟨H3,I3,q3⟩
noncomputable def Wa(r r':R2)(ta tb tc:TE):TE:=fun σ H Q=>ta σ H fun x H1=>tb σ H1 fun y H2=>r x y H2 fun z H3=>∃k,z = .bl k /\
 (if k=true then tc σ H3 fun w' H4=>r' y w' H4 Q else Q (.bl false) H3)
theorem Qx{op op':CmpOp}{r r':R2}(ho:OpR X (compareOp op) r)(ho':OpR X (compareOp op') r')(ha:PE X a ta)(hb:PE X b tb)(hc:PE X c tc)
  (hm:lastMarks [op,op'] [b,c]=false:=by with_unfolding_all rfl):PT X (.Compare a [op,op'] [b,c] pos) (Uw (Wa r r' ta tb tc)):=by
 intro pins s σ H Q I h
 refine isTrue_chain (thn (ha pins s σ H _ I h) fun v s1 ⟨x,H1,I1,r1,q1⟩=>test_link (thn (hb pins s1 σ H1 _ I1 q1) fun u s2 ⟨y,H2,I2,r2,q2⟩ =>
  thn (ho pins s2 σ H2 x y v u _ I2 r1 r2 q2) fun d s3 ⟨z,H3,I3,r3,k,e,q3⟩=>?_)) hm
 subst e
 cases r3
 refine wpAny_truthy_bool ?_
 cases k with
 | false =>
  obtain⟨k',e',q'⟩:=q3
  cases e'
  exact ite_ff ⟨H3,I3,q'⟩
 | true =>
  refine ite_tt (test_last (thn (hc pins s3 σ H3 _ I3 q3) fun w' s4 ⟨z',H4,I4,r4,q4⟩=>thn (ho' pins s4 σ H4 y z' u w' _ I4 r2 r4 q4) fun d' s5 ⟨z2,H5,I5,r5,k2,e2,q5⟩=>?_))
  subst e2
  cases r5
  exact wpAny_truthy_bool ⟨H5,I5,q5⟩
theorem Ef:(sizeLine:Nat)<2^63:=by rw[sizeLine_eq];decide
theorem U9{x:V}{us:List Value}(r:Vals [x] us):∃u,us = [u]/\RelV x u:=by
 cases r with
 | cons r1 r2=>cases r2;exact⟨_,rfl,r1⟩
theorem Vy{x y:V}{us:List Value}(r:Vals [x,y] us):∃u w',us = [u,w']/\RelV x u/\RelV y w':=by
 cases r with
 | cons r1 r2 =>
  cases r2 with
  | cons r3 r4=>cases r4;exact⟨_,_,rfl,r1,r3⟩
theorem Jp:G5 X (.builtin "abs") (fun xs H Q=>∃i,xs = [.int i]/\Q (.int (if i<0 then -i else i)) H):=by
 intro pins s σ H xs us Q I r h
 obtain⟨i,rfl,q⟩:=h
 obtain⟨u,rfl,t,rfl⟩:=U9 r
 exact call_abs_int fun u tk=>⟨.int (if i<0 then -i else i),H,I.tok _,⟨_,rfl⟩,q⟩
theorem Mu(hc:X.calm=true):G5 X (.builtin "max") (fun xs H Q=>∃i j,xs = [.int i,.int j]/\Q (.int (if j>i then j else i)) H):=by
 intro pins s σ H xs us Q I r h
 obtain⟨i,j,rfl,q⟩:=h
 obtain⟨u,w',rfl,⟨t,rfl⟩,⟨t',rfl⟩⟩:=Vy r
 refine max_two_ints (I.ok.hd hc) fun h' tk k=>⟨_,H,I.kept k,?_,q⟩
 by_cases hj:j>i
 ·rw[if_pos hj,if_pos hj];exact⟨_,rfl⟩
 ·rw[if_neg hj,if_neg hj];exact⟨_,rfl⟩
theorem Dz(hc:X.calm=true):G5 X (.builtin "min") (fun xs H Q=>∃i j,xs = [.int i,.int j]/\Q (.int (if j<i then j else i)) H):=by
 intro pins s σ H xs us Q I r h
 obtain⟨i,j,rfl,q⟩:=h
 obtain⟨u,w',rfl,⟨t,rfl⟩,⟨t',rfl⟩⟩:=Vy r
 refine min_two_ints (I.ok.hd hc) fun h' tk k=>⟨_,H,I.kept k,?_,q⟩
 by_cases hj:j<i
 ·rw[if_pos hj,if_pos hj];exact⟨_,rfl⟩
 ·rw[if_neg hj,if_neg hj];exact⟨_,rfl⟩
theorem Mo:G5 X (.type "int") (fun xs H Q=>(∃i,xs = [.int i]/\Q (.int i) H)\/∃k,xs = [.bl k]/\Q (.int (if k then 1 else 0)) H):=by
 intro pins s σ H xs us Q I r h
 rcases h with⟨i,rfl,q⟩ | ⟨k,rfl,q⟩
 ·obtain⟨u,rfl,t,rfl⟩:=U9 r
  exact call_int_int ⟨.int i,H,I,⟨_,rfl⟩,q⟩
 ·obtain⟨u,rfl,r1⟩:=U9 r
  cases r1
  exact call_int_bool ⟨.int (if k then 1 else 0),H,I.tok _,⟨_,rfl⟩,q⟩
end
structure ObjM(h:Heap)(x dx C:Addr)(mA:Str->Option Value):Prop where
 obj:h.get? x=some (PySem.W.instObj C dx)
 ns:h.Ns1 dx mA
 ne:dx≠x
theorem Nz{h:Heap}{dx:Addr}{mA:Str->Option Value}(n:h.Ns1 dx mA):∃od,h.get? dx=some od/\∀name,PySem.W.lookIn name od=some (mA name):=by
 obtain⟨o,es,ep,ho,hd,hk,_,hm⟩:=n
 refine⟨o,ho,fun name=>?_⟩
 have e:=hm name
 unfold nsFind findBy at e
 rw[<-Array.find?_toList]at e
 unfold PySem.W.lookIn
 rw[hd]
 dsimp only
 split
 ·rename_i y q
  rw[q]at e
  exact congrArg some e
 ·rename_i q
  rw[q]at e
  have a:es.toList.any (·.refKey)=false:=by
   rw[List.any_eq_false]
   intro y hy
   obtain⟨z,t,hkey⟩:=hk y (Array.mem_toList_iff.mp hy)
   simp[DictEntry.refKey,hkey]
  have a':¬es.toList.any (·.refKey)=true:=by rw[a];exact Bool.false_ne_true
  rw[if_neg a']
  exact congrArg some e
theorem ObjM.look{h:Heap}{x dx C:Addr}{mA:Str->Option Value}(I:ObjM h x dx C mA):∃od,PySem.W.InstAt h x (PySem.W.instObj C dx) C (some od)/\∀name,PySem.W.lookIn name od=some (mA name) :=
 let⟨od,ho,hl⟩:=Nz I.ns
 ⟨od,⟨I.obj,rfl,rfl,ho⟩,hl⟩
section
variable{prog:Program}{w:World}{A:Around}{E:Value->Shared->Prop}{s:Shared}{K:PySem.W.Frag}{x dx C f:Addr}{mA:Str->Option Value}{name:Str}{v:Value}
theorem Va{expr:Bool}{Q:Value->Shared->Prop}(X:K.In s.heap)(I:ObjM s.heap x dx C mA)(hg:PySem.W.plainGet K C name=true)(hh:PySem.W.hasDictIn K C=true)
  (ha:PySem.W.findIn K (.ref C) name=some none) (hv:mA name=some v) (hv':PySem.W.handedIn v=true) (h:Q v { s with toks:=s.toks+1 }) :
  wpAny (model prog w) A (getAttr (.ref x) name expr) Q E s:=by
 obtain⟨od,J,hl⟩:=I.look
 exact PySem.W.get_value X J (PySem.W.plainGet_of hg).1 (PySem.W.findObj_own hh ha rfl (by rw[hl,hv])) hv' h
theorem Pg{pl:Sem Bool}{Q:Value×List Value->Shared->Prop}(X:K.In s.heap)(I:ObjM s.heap x dx C mA)(hg:PySem.W.plainGet K C name=true)
  (hf:PySem.W.findIn K (.ref C) name=some (some (.ref f))) (ht:PySem.W.isFn K (.ref f)=true) (hv:mA name=none) (h:Q (.ref f,[.ref x]) s) :
  wpAny (model prog w) A (getMethod (.ref x) name pl) Q E s:=by
 obtain⟨od,J,hl⟩:=I.look
 exact PySem.W.method_fn X J (PySem.W.plainGet_of hg).1 (PySem.W.plainGet_of hg).2 hf (beq_iff_eq.mp ht) (by show(PySem.W.lookIn name od).map (·.isSome)=some false;rw[hl,hv];rfl) h
theorem Tm{ns:List Str}{Q:Unit->Shared->Prop}(X:K.In s.heap)(I:ObjM s.heap x dx C mA)
  (hs:PySem.W.findIn K (.ref C) "__setattr__" = some (some (.builtin "object.__setattr__"))) (hp:PySem.W.plainOver K C=true) (ht:PySem.W.takerIn K C name=some none) (hh:PySem.W.hasDictIn K C=true)
  (hw:PySem.Within mA ns) (hsz:ns.length<=sizeLine)
  (h:∀h',ObjM h' x dx C (fun y=>if y=name then some v else mA y)->Heap.SameBut dx s.heap h'->Q () { s with heap:=h',toks:=s.toks+2 }) :
  wpAny (model prog w) A (setAttr (.ref x) name v) Q E s:=by
 obtain⟨od,J,hl⟩:=I.look
 refine PySem.W.set_plain X J hs (PySem.W.osa_open (s:={ s with toks:=s.toks+1 }) (r:=none) X J hp ht fun b=>?_)
 obtain⟨cd,hc,hd'⟩:=PySem.W.any_some hh
 have hx:s.heap.get? x=some ⟨.ref C,some dx,.plain,#[]⟩:=I.obj
 refine wpAny_bind (wpAny_pure (wpAny_bind (wpAny_bind (wpAny_loadPart hx (wpAny_bind (PySem.W.Looks.here (s:={ s with toks:=s.toks+1 }) (PySem.W.looks_clsIn X hc) ?_))))))
 rw[hd']
 refine wpAny_pure (a:=some dx) (wpAny_bind (wpAny_pure (wpAny_bind ?_)))
 refine wpAny_nsSet1 (s:={ s with toks:=s.toks+1 }) I.ns fun h' hn2 hs2=>?_
 obtain⟨oD,esD,epD,hoD,hdD,hcD⟩:=hn2.count (PySem.Within.cons name v hw)
 refine wpAny_bind (wpAny_lookBehind hoD (by rw[hdD];exact pastItsLine_dict (Nat.le_trans hcD (by rw[List.length_cons];omega))) ?_)
 exact wpAny_pure (h _ ⟨(hs2.2 _ (Ne.symm I.ne)).trans I.obj,hn2,I.ne⟩ hs2)
theorem Qe{R:Result->Shared->Prop}{vs:List Value}{kw:List (Str×Value)}(X:K.In s.heap)(hm:PySem.W.makesIn K C=true)
  (hi:PySem.W.findIn K (.ref C) "__init__" = some (some (.ref f))) (hf:PySem.W.typeIn K (.ref f)=some (.type "function"))
  (h:codeAny (model prog w) (A.under (.builtin "type.__call__" ⟨.ref C::vs,kw⟩)) (.call (.ref f) ⟨.ref (s.heap.objs.size+1)::vs,kw⟩) (PySem.W.InitBack (s.heap.objs.size+1) R)
   { s with heap:=(s.heap.push PySem.W.emptyDict).push (PySem.W.instObj C s.heap.objs.size) }) :
  codeAny (model prog w) A (.call (.ref C) ⟨vs,kw⟩) R s:=by
 obtain⟨hh,g,d,t,os⟩:=s
 exact PySem.W.make_core (PySem.W.makes_of X hm) (PySem.W.looks_findIn X hi) (fun self=>PySem.W.bind_fn X self hf) (.inl rfl) h
end
noncomputable def V4(f:Str)(v:V):List (Str×V)->List (Str×V)
 | []=>[(f,v)]
 | (g,x)::r=>if g=f then(g,v)::r else(g,x)::V4 f v r
theorem Ai(f g:Str)(v:V):∀fs:List (Str×V),(V4 f v fs).lookup g=if g=f then some v else fs.lookup g
 | []=>by
  show List.lookup g [(f,v)]=_
  by_cases h:g=f
  ·have hb:(g == f)=true:=beq_iff_eq.mpr h
   simp only[List.lookup,hb,if_pos h]
  ·have hb:(g == f)=false:=beq_eq_false_iff_ne.mpr h
   simp only[List.lookup,hb,if_neg h]
 | (k,x)::r=>by
  have ih:=Ai f g v r
  rw[show V4 f v ((k,x)::r) =(if k=f then(k,v)::r else(k,x)::V4 f v r)from rfl]
  by_cases hk:k=f
  ·rw[if_pos hk]
   by_cases h:g=k
   ·have hb:(g == k)=true:=beq_iff_eq.mpr h
    simp only[List.lookup,hb,if_pos (h.trans hk)]
   ·have hb:(g == k)=false:=beq_eq_false_iff_ne.mpr h
    simp only[List.lookup,hb,if_neg (fun e:g=f=>h (e.trans hk.symm))]
  ·rw[if_neg hk]
   by_cases h:g=k
   ·have hb:(g == k)=true:=beq_iff_eq.mpr h
    simp only[List.lookup,hb,if_neg (fun e:g=f=>hk (h.symm.trans e))]
   ·have hb:(g == k)=false:=beq_eq_false_iff_ne.mpr h
    simp only[List.lookup,hb]
    exact ih
theorem t0(f:Str)(v:V):∀fs:List (Str×V),f∈(V4 f v fs).map (·.1)/\∀g,g∈fs.map (·.1)->g∈(V4 f v fs).map (·.1)
 | []=>⟨by simp[V4],fun g h=>by simp at h⟩
 | (k,x)::r=>by
  obtain⟨i1,i2⟩:=t0 f v r
  rw[show V4 f v ((k,x)::r) =(if k=f then(k,v)::r else(k,x)::V4 f v r)from rfl]
  by_cases hk:k=f
  ·rw[if_pos hk]
   subst hk
   exact⟨by simp,fun g h=>by simpa using h⟩
  ·rw[if_neg hk]
   refine⟨?_,fun g h=>?_⟩
   ·rw[List.map_cons]
    exact List.mem_cons_of_mem _ i1
   ·rw[List.map_cons]at h⊢
    rcases List.mem_cons.mp h with e | e
    ·exact List.mem_cons.mpr (.inl e)
    ·exact List.mem_cons_of_mem _ (i2 g e)
theorem Ac(f:Str)(v:V):∀fs:List (Str×V),(V4 f v fs).length<=fs.length+1
 | []=>by simp[V4]
 | (k,x)::r=>by
  have ih:=Ac f v r
  rw[show V4 f v ((k,x)::r) =(if k=f then(k,v)::r else(k,x)::V4 f v r)from rfl]
  by_cases hk:k=f
  ·rw[if_pos hk,List.length_cons,List.length_cons];omega
  ·rw[if_neg hk,List.length_cons,List.length_cons];omega
theorem RelO.some_of{v:V}{o:Option Value}(r:RelO (some v) o):∃u,o=some u/\RelV v u:=by
 cases o with
 | none=>exact(show False from r).elim
 | some u=>exact⟨u,rfl,r⟩
theorem RelO.none_of{o:Option Value}(r:RelO none o):o=none:=by
 cases o with
 | none=>rfl
 | some u=>exact(show False from r).elim
theorem Og{v:V}{u:Value}(r:RelV v u):PySem.W.handedIn u=true:=by
 cases v with
 | non=>cases(show u=Value.none from r);rfl
 | bl b=>cases(show u=Value.bool b from r);rfl
 | int i=>obtain⟨t,e⟩:=(show ∃t,u=Value.int i t from r);cases e;rfl
 | str x=>obtain⟨t,e⟩:=(show ∃t,u=Value.str x t from r);cases e;rfl
 | byt b=>obtain⟨t,e⟩:=(show ∃t,u=Value.bytes b t from r);cases e;rfl
 | flt b=>obtain⟨t,e⟩:=(show ∃t,u=Value.float b t from r);cases e;rfl
 | ref a=>cases(show u=Value.ref a from r);rfl
 | ty n=>cases(show u=Value.type n from r);rfl
section
variable{P:Program}{w:World}{H H':Hp}{h h':Heap}{a C dx:Addr}{fs fs':List (Str×V)}
theorem Cc(hok:HOk P w H h)(e:H a=some (.ins C dx fs)):∃mA,ObjM h a dx C mA/\(∀f,RelO (fs.lookup f) (mA f))/\PySem.Within mA (fs.map (·.1))/\fs.length<=1000/\H dx=some (.own a):=by
 obtain⟨d,z,ne,ob,mA,n,r,q⟩:=(show ObjOk P w H h a (.ins C dx fs)from hok a _ e)
 exact⟨mA,⟨ob,n,ne⟩,r,q,z,d⟩
end
structure Cls(K:PySem.W.Frag)(C:Addr):Prop where
 pg:PySem.W.plainGet K C Str.empty=true
 hd:PySem.W.hasDictIn K C=true
 po:PySem.W.plainOver K C=true
 sa:PySem.W.findIn K (.ref C) "__setattr__" = some (some (.builtin "object.__setattr__"))
theorem Cls.get{K:PySem.W.Frag}{C:Addr}(c:Cls K C)(f:Str):PySem.W.plainGet K C f=true:=c.pg
noncomputable def NoAttr(K:PySem.W.Frag)(C:Addr)(f:Str):Prop:=PySem.W.findIn K (.ref C) f=some none
theorem NoAttr.taker{K:PySem.W.Frag}{C:Addr}{f:Str}(n:NoAttr K C f):PySem.W.takerIn K C f=some none:=by
 unfold PySem.W.takerIn
 rw[show PySem.W.findIn K (.ref C) f=some none from n]
 rfl
structure Meth(K:PySem.W.Frag)(C:Addr)(m:Str)(f:Addr):Prop where
 at_:PySem.W.findIn K (.ref C) m=some (some (.ref f))
 fn:PySem.W.isFn K (.ref f)=true
 kp:PySem.W.keepIn K (.ref f)=true
section
variable{X:Cx}{pins:List (Addr×Obj)}{σ:St}{H:Hp}{s:Shared}{a C dx:Addr}{fs:List (Str×V)}{f:Str}{v:V}{A:Around}{E:Value->Shared->Prop}
theorem Jq{b:Bool}{Q:Value->Shared->Prop}(I:Inv X pins σ H s)(e:H a=some (.ins C dx fs))(c:Cls X.K C)(n:NoAttr X.K C f)(l:fs.lookup f=some v)
  (h:∀u s',Inv X pins σ H s'->RelV v u->Q u s'):wpAny (model X.prog X.w) A (getAttr (.ref a) f b) Q E s:=by
 obtain⟨mA,O,r,_,_,_⟩:=Cc I.hok e
 obtain⟨u,hu,ru⟩:=RelO.some_of (v:=v) (o:=mA f) (by rw[<-l];exact r f)
 exact Va I.kIn O (c.get f) c.hd n hu (Og ru) (h u _ (I.tok _) ru)
theorem Bi{m:Str}{g:Addr}{pl:Sem Bool}{Q:Value×List Value->Shared->Prop}(I:Inv X pins σ H s)(e:H a=some (.ins C dx fs))(c:Cls X.K C)(k:Meth X.K C m g)(l:fs.lookup m=none)
  (h:Q (.ref g,[.ref a]) s):wpAny (model X.prog X.w) A (getMethod (.ref a) m pl) Q E s:=by
 obtain⟨mA,O,r,_,_,_⟩:=Cc I.hok e
 have hn:mA m=none:=RelO.none_of (by rw[<-l];exact r m)
 exact Pg I.kIn O (c.get m) k.at_ k.fn hn h
theorem Kn{y:V}{u:Value}{Q:Unit->Shared->Prop}(I:Inv X pins σ H s)(e:H a=some (.ins C dx fs))(c:Cls X.K C)(n:NoAttr X.K C f)(hl:fs.length<1000)(ry:RelV y u)
  (h:∀s',Inv X pins σ (upd H a (.ins C dx (V4 f y fs))) s'->Q () s'):wpAny (model X.prog X.w) A (setAttr (.ref a) f u) Q E s:=by
 obtain⟨mA,O,r,wi,_,ho⟩:=Cc I.hok e
 have hz:(fs.map (·.1)).length<=sizeLine:=by rw[List.length_map,sizeLine_eq];omega
 refine Tm I.kIn O c.sa c.po n.taker c.hd wi hz fun h' O' sb=>h _ ?_
 have hd:∃o,h'.get? dx=some o:=let⟨o,_,_,e',_⟩:=O'.ns;⟨o,e'⟩
 refine I.write (x:=a) (e:=dx) (by rw[e];exact True.intro) (.inr ho) (fun b q hb z=>(sb.2 b hb).trans z) hd ?_
 refine⟨by rw[B6 O.ne];exact ho,?_,O.ne,O'.obj,_,O'.ns,fun g=>?_,fun g hg=>?_⟩
 ·have:=Ac f y fs;omega
 ·show RelO ((V4 f y fs).lookup g) (if g=f then some u else mA g)
  rw[Ai]
  by_cases q:g=f
  ·rw[if_pos q,if_pos q];exact ry
  ·rw[if_neg q,if_neg q];exact r g
 ·by_cases q:g=f
  ·rw[q];exact(t0 f y fs).1
  ·refine(t0 f y fs).2 g (wi g fun z=>hg ?_)
   show(if g=f then some u else mA g)=none
   rw[if_neg q];exact z
theorem Inv.made(I:Inv X pins σ H s):Inv X pins σ (upd (upd H s.heap.objs.size (.own (s.heap.objs.size+1))) (s.heap.objs.size+1) (.ins C s.heap.objs.size []))
  { s with heap:=(s.heap.push PySem.W.emptyDict).push (PySem.W.instObj C s.heap.objs.size) }:=by
 have e1:(s.heap.push PySem.W.emptyDict).get? s.heap.objs.size=some PySem.W.emptyDict:=Heap.get?_push_size s.heap rfl
 have e2:((s.heap.push PySem.W.emptyDict).push (PySem.W.instObj C s.heap.objs.size)).get? (s.heap.objs.size+1)=some (PySem.W.instObj C s.heap.objs.size):=by
  have:=Heap.get?_push_size (s.heap.push PySem.W.emptyDict) (o:=PySem.W.instObj C s.heap.objs.size) rfl
  rwa [Heap.size_push]at this
 have e3:(s.heap.push PySem.W.emptyDict).Ns s.heap.objs.size (fun _=>none):=⟨PySem.W.emptyDict,#[],_,e1,rfl,(fun e he=>absurd he (by simp)),fun _=>rfl⟩
 have I1:=I.laid (a:=s.heap.objs.size) (o:=.own (s.heap.objs.size+1)) (h':=s.heap.push PySem.W.emptyDict) (t':=s.toks) (fun b u q=>Heap.get?_push_of_some _ q) (Nat.le_refl _) ⟨_,e1⟩
 refine I1.laid (a:=s.heap.objs.size+1) (o:=.ins C s.heap.objs.size []) (t':=s.toks) (fun b u q=>Heap.get?_push_of_some _ q) (Nat.le_of_eq (Heap.size_push _ _)) ?_
 have ne:s.heap.objs.size≠s.heap.objs.size+1:=Nat.ne_of_lt (Nat.lt_succ_self _)
 refine⟨by rw[B6 ne,A9],Nat.zero_le _,ne,e2,fun _=>none,(Heap.Ns1.of_empty e3).at fun o q=>Heap.get?_push_of_some _ q,fun _=>True.intro,fun y hy=>absurd rfl hy⟩
theorem Ur{prog:Program}{w:World}{env:Env}{e:Expr}{f:Str}{pos:Pos}{s:Shared}{Q:Value->Shared->Prop}(hb:attributeBase e f env (eval e env)=eval e env)
  (h:wpAny (model prog w) A (eval e env) (fun o s₁=>wpAny (model prog w) A (getAttr o f true) Q E s₁) E s):wpAny (model prog w) A (eval (.Attribute e f pos) env) Q E s :=
 Attribute_any_ h (by rw[arm_eval_Attribute,hb])
end
noncomputable def zAx(K:PySem.W.Frag)(ta:TE)(f:Str):TE:=fun σ H Q=>ta σ H fun x H1=>∃a C dx fs v,x = .ref a/\H1 a=some (.ins C dx fs)/\Cls K C/\NoAttr K C f/\fs.lookup f=some v/\Q v H1
noncomputable def zAk(K:PySem.W.Frag)(ta tv:TE)(f:Str):TS:=fun D σ H=>tv σ H fun y H1=>ta σ H1 fun x H2=>∃a C dx fs,x = .ref a/\H2 a=some (.ins C dx fs)/\Cls K C/\NoAttr K C f/\fs.length<1000 /\
 D.nx σ (upd H2 a (.ins C dx (V4 f y fs)))
section
variable{X:Cx}{o e value:Expr}{f:Str}{pos pos' tpos:Pos}{ta tv:TE}
theorem Vq(he:PE X e ta)(hb:attributeBase e f X.env (eval e X.env)=eval e X.env):PE X (.Attribute e f pos) (zAx X.K ta f):=by
 intro pins s σ H Q I h
 refine Ur hb (thn (he pins s σ H _ I h) fun u s1 ⟨x,H1,I1,rx,a,C,dx,fs,v,ex,ea,c,n,l,q⟩=>?_)
 subst ex
 obtain rfl:u=Value.ref a:=rx
 exact Jq I1 ea c n l fun u' s2 I2 ru=>⟨v,H1,I2,ru,q⟩
theorem Vu(ha:PE X o ta)(hv:PE X value tv)(hs:swapsWith value (some (.Attribute o f pos')) pos.line X.env=pure false):PS X (.Assign [.Attribute o f pos'] value pos) (zAk X.K ta tv f):=by
 intro pins s σ H D I h
 refine plainObj_wpAny_Assign_Attribute (thn (hv pins s σ H _ I h) fun u s1 ⟨y,H1,I1,ry,q⟩=>thn (ha pins s1 σ H1 _ I1 q) fun ov s2 ⟨x,H2,I2,rx,a,C,dx,fs,ex,ea,c,n,l,q2⟩=>?_) hs
 subst ex
 obtain rfl:ov=Value.ref a:=rx
 exact Kn I2 ea c n l ry fun s3 I3=>⟨σ,_,I3,q2⟩
end
section
variable{X:Cx}{pins:List (Addr×Obj)}{σ:St}{H:Hp}{s:Shared}{A:Around}{E:Value->Shared->Prop}{Q:Value->Shared->Prop}{c:Value}{b:Bool}
inductive TyOf(K:PySem.W.Frag)(H:Hp):V->Value->Prop where
 | non:TyOf K H .non (.type "NoneType")
 | bl (x:Bool):TyOf K H (.bl x) (.type "bool")
 | int (i:Int):TyOf K H (.int i) (.type "int")
 | str (x:Str):TyOf K H (.str x) (.type "str")
 | flt (x:UInt64):TyOf K H (.flt x) (.type "float")
 | lst {a:Addr} {xs:List V} (e:H a=some (.lst xs)):TyOf K H (.ref a) (.type "list")
 | frz {a:Addr} {o:Obj} {xs:List V} (e:H a=some (.frz o (.lst xs))):TyOf K H (.ref a) (.type "list")
 | tup {a:Addr} {xs:List V} (e:H a=some (.tup xs)):TyOf K H (.ref a) (.type "tuple")
 | dK {a:Addr} {kvs:List (Key×V)} (e:H a=some (.dK kvs)):TyOf K H (.ref a) (.type "dict")
 | dT {a:Addr} {kvs:List (List Key×V)} (e:H a=some (.dT kvs)):TyOf K H (.ref a) (.type "dict")
 | ins {a C dx:Addr} {fs:List (Str×V)} (e:H a=some (.ins C dx fs)) (cl:Cls K C) (ha:PySem.W.findIn K (.ref C) "__class__" = some (some (.builtin "object.__class__")))
   (hn:PySem.W.specialIn K (.builtin "object.__class__") "__get__" = some (some (.builtin "getset_descriptor.__get__"))) (htk:PySem.W.takesIn K (.builtin "object.__class__")=some true)
   (hm:PySem.W.mroIn K C (.type "object")=some true):TyOf K H (.ref a) (.ref C)
theorem Lq{x:V}{u t:Value}(I:Inv X pins σ H s)(rx:RelV x u)(ty:TyOf X.K H x t)(e:PySem.W.kitOne X.K t c=some b)(h:∀tk,Q (.bool b) { s with toks:=tk }) :
  wpAny (model X.prog X.w) A (call (.builtin "isinstance") [u,c]) Q E s:=by
 cases ty with
 | non=>cases(show u=Value.none from rx);exact PySem.W.kia_one PySem.W.kitx_none I.kIn True.intro e (fun z=>nomatch z) h
 | bl y=>cases(show u=Value.bool y from rx);exact PySem.W.kia_one PySem.W.kitx_bool I.kIn True.intro e (fun z=>nomatch z) h
 | int i=>obtain⟨t,q⟩:=(show ∃t,u=Value.int i t from rx);cases q;exact PySem.W.kia_one PySem.W.kitx_int I.kIn True.intro e (fun z=>nomatch z) h
 | str y=>obtain⟨t,q⟩:=(show ∃t,u=Value.str y t from rx);cases q;exact PySem.W.kia_one PySem.W.kitx_str I.kIn True.intro e (fun z=>nomatch z) h
 | flt y=>obtain⟨t,q⟩:=(show ∃t,u=Value.float y t from rx);cases q;exact PySem.W.kia_one PySem.W.kitx_float I.kIn True.intro e (fun z=>nomatch z) h
 | @lst a xs ea =>
  cases(show u=Value.ref a from rx)
  obtain⟨_,_,n,_,h1⟩:=(show ObjOk X.prog X.w H s.heap a (.lst xs)from I.hok a _ ea)
  exact PySem.W.kia_one PySem.W.kitx_list I.kIn ⟨_,h1,rfl⟩ e (fun z=>nomatch z) h
 | @frz a ob xs ea =>
  cases(show u=Value.ref a from rx)
  obtain⟨_,_,_,n,_,h1⟩:=(show ObjOk X.prog X.w H s.heap a (.frz ob (.lst xs))from I.hok a _ ea)
  exact PySem.W.kia_one PySem.W.kitx_list I.kIn ⟨_,h1,rfl⟩ e (fun z=>nomatch z) h
 | @tup a xs ea =>
  cases(show u=Value.ref a from rx)
  obtain⟨_,_,_,p⟩:=(show ObjOk X.prog X.w H s.heap a (.tup xs)from I.hok a _ ea)
  obtain⟨o,h1,h2,_⟩:=p
  exact PySem.W.kia_one PySem.W.kitx_tuple I.kIn ⟨o,h1,h2⟩ e (fun z=>nomatch z) h
 | @dK a kvs ea =>
  cases(show u=Value.ref a from rx)
  obtain⟨_,_,vs,_,p⟩:=(show ObjOk X.prog X.w H s.heap a (.dK kvs)from I.hok a _ ea)
  obtain⟨o,es,ep,h1,h2,_⟩:=p
  exact PySem.W.kia_one PySem.W.kitx_dict I.kIn ⟨o,h1,h2.1⟩ e (fun z=>nomatch z) h
 | @dT a kvs ea =>
  cases(show u=Value.ref a from rx)
  obtain⟨_,_,xs,_,o,es,ep,h1,h2,_⟩:=(show ObjOk X.prog X.w H s.heap a (.dT kvs)from I.hok a _ ea)
  exact PySem.W.kia_one PySem.W.kitx_dict I.kIn ⟨o,h1,h2.1⟩ e (fun z=>nomatch z) h
 | @ins a C dx fs ea cl ha hn htk hm =>
  cases(show u=Value.ref a from rx)
  obtain⟨mA,O,_⟩:=Cc I.hok ea
  obtain⟨od,J,_⟩:=O.look
  exact PySem.W.kia_one (PySem.W.kitx_own (cl.get _) cl.hd ha hn htk hm) I.kIn J e (fun z=>nomatch z) h
end
structure Room(k:Nat)(A:Around):Prop where
 hd:A.handled=none
 dp:A.depth+3*k+5<recursionLimit
 un:A.units+16*k+200<cLine
theorem Room.mono{j k:Nat}{A:Around}(r:Room k A)(h:j<=k):Room j A:=⟨r.hd,by have:=r.dp;omega,by have:=r.un;omega⟩
theorem Room.deeper{k:Nat}{A:Around}(r:Room (k+1) A)(env:Env):Room k (A.deeper env) :=
 ⟨r.hd,by have:=r.dp;show A.depth+1+3*k+5<_;omega,by have:=r.un;show A.units+3+16*k+200<_;omega⟩
theorem Kk{A:Around}{C:Addr}{us:List Value}{kw:List (Str×Value)}:(A.under (.builtin "type.__call__" ⟨.ref C::us,kw⟩)).depth=A.depth+1:=by
 first | rfl | simp[Around.under,Code.weight,Code.isCreation,Code.isGuard,Code.isCaller,Code.frames,Code.isFrame,guardIds]
theorem Jy{A:Around}{C:Addr}{us:List Value}{kw:List (Str×Value)}:(A.under (.builtin "type.__call__" ⟨.ref C::us,kw⟩)).units=A.units+1:=by
 first | rfl | simp[Around.under,Code.cUnits,Code.frames,Code.isFrame]
theorem Room.make{k:Nat}{A:Around}(r:Room (k+1) A)(C:Addr)(us:List Value)(kw:List (Str×Value)):Room k (A.under (.builtin "type.__call__" ⟨.ref C::us,kw⟩)) :=
 ⟨r.hd,by have:=r.dp;rw[Kk];omega,by have:=r.un;rw[Jy];omega⟩
theorem Room.depth{k:Nat}{A:Around}(r:Room k A):A.depth<recursionLimit:=by have:=r.dp;omega
theorem Room.units{k:Nat}{A:Around}(r:Room k A):A.units+64<cLine:=by have:=r.un;omega
noncomputable def Hk:TA:=fun _ H Q=>Q [] H
noncomputable def X7(ta:TE)(tr:TA):TA:=fun σ H Q=>ta σ H fun x H1=>tr σ H1 fun xs H2=>Q (x::xs) H2
section
variable{X:Cx}{e:Expr}{es:List Expr}{te:TE}{t:TA}{pos:Pos}
theorem B0:PA X [] Hk:=fun _ _ _ _ H Q I h=>Calls.spliced_nil ⟨[],H,I,.nil,h⟩
theorem A8(ha:PE X e te)(hr:PA X es t)(hs:starEach (e::es) X.env =(false,eval e X.env)::starEach es X.env:=by rfl):PA X (e::es) (X7 te t):=by
 intro pos pins s σ H Q I h
 rw[hs]
 show wpAny _ _ (spliced ((false,eval e X.env)::backTo pos (starEach es X.env))) _ _ s
 refine Calls.spliced_cons (thn (ha pins s σ H _ I h) fun u s1 ⟨x,H1,I1,r1,q1⟩=>?_)
 exact thn (hr pos pins s1 σ H1 _ I1 q1) fun us s2 ⟨xs,H2,I2,r2,q2⟩=>⟨x::xs,H2,I2,.cons r1 r2,q2⟩
noncomputable def Zb(t:TA):TE:=fun σ H Q=>t σ H fun xs H1=>xs.length<=sizeLine/\∀p,H1 p=none->Q (.ref p) (upd H1 p (.tup xs))
noncomputable def zAj(t:TA):TE:=fun σ H Q=>t σ H fun xs H1=>xs.length<=sizeLine/\∀p,H1 p=none->Q (.ref p) (upd H1 p (.lst xs))
theorem O2{x1}(h:PA X es t):PE X (.Tuple es x1 pos) (Zb t):=by
 intro pins s σ H Q I hq
 refine wpAny_Tuple_spliced (thn (h pos pins s σ H _ I hq) fun us s1 ⟨xs,H1,I1,r,z,q⟩=>⟨by rw[<-r.length];exact z,?_⟩)
 have hf:H1 s1.heap.objs.size=none:=I1.hok.fresh (Nat.le_refl _)
 refine⟨.ref s1.heap.objs.size,upd H1 s1.heap.objs.size (.tup xs),I1.laid (t':=s1.toks) (fun b u e=>Heap.get?_push_of_some _ e) (Nat.le_refl _) ?_,rfl,q _ hf⟩
 exact⟨z,us,r,⟨_,Heap.get?_push_size _ rfl,rfl,_,rfl⟩⟩
theorem J1(h:PA X es t):PE X (.List es pos) (zAj t):=by
 intro pins s σ H Q I hq
 refine wpAny_List_spliced (thn (h pos pins s σ H _ I hq) fun us s1 ⟨xs,H1,I1,r,z,q⟩=>⟨by rw[<-r.length];exact z,?_⟩)
 have hf:H1 s1.heap.objs.size=none:=I1.hok.fresh (Nat.le_refl _)
 refine⟨.ref s1.heap.objs.size,upd H1 s1.heap.objs.size (.lst xs),I1.laid (t':=s1.toks) (fun b u e=>Heap.get?_push_of_some _ e) (Nat.le_refl _) ?_,rfl,q _ hf⟩
 exact⟨z,us,0,r,Heap.get?_push_size _ rfl⟩
end
noncomputable abbrev Sp:=List V->Hp->VK->XK->Prop
noncomputable abbrev CXT:=List Env->Hp->Shared->XK->Value->Shared->Prop
structure Env0(P:Program)(w:World)(K:PySem.W.Frag)(mg:Str->Option Value)(base:Heap)(A:Around)(outer:List Env)(s:Shared)(H:Hp):Prop where
 frames:A.frames=some outer
 mod:Mod K mg base
 bs:∀b o,base.get? b=some o->s.heap.get? b=some o/\H b=none
 bsz:base.objs.size<=s.heap.objs.size
 funs:s.heap.FunFrames base outer
 frf:∀b∈frs outer,H b=none
 hok:HOk P w H s.heap
 bare:AllBare s.gens
noncomputable def CE(outer:List Env)(P:Program)(w:World)(H:Hp)(s:Shared)(Q:VK)(u:Value)(s':Shared):Prop :=
 ∃v H',s'.os=s.os/\AllBare s'.gens/\Un (frs outer) [] H H' s.heap s'.heap/\HOk P w H' s'.heap/\RelV v u/\Q v H'
noncomputable def CR(CX:CXT)(outer:List Env)(P:Program)(w:World)(H:Hp)(s:Shared)(Q:VK)(E:XK)(r:Result)(s':Shared):Prop :=
 match r with
 | .ok (.ret u)=>CE outer P w H s Q u s'
 | .ok _=>False
 | .error e=>CX outer H s E e s'
structure FnOk(P:Program)(w:World)(K:PySem.W.Frag)(mg:Str->Option Value)(base:Heap)(CX:CXT)(k:Nat)(f:Addr)(fd:FuncData)(ps:List Str)(sp:Sp):Prop where
 len:∀vs H Q E,sp vs H Q E->vs.length=ps.length
 run:∀(A:Around) (outer:List Env) (s:Shared) (H:Hp) (args:Args) (us:List Value) (vs:List V) (Q:VK) (E:XK),Room k A->Env0 P w K mg base A outer s H->BindsTo s fd args (ps.zip us)->Vals vs us->sp vs H Q E ->
  codeAny (model P w) A (.call (.ref f) args) (CR CX outer P w H s Q E) s
theorem Env0.make{P:Program}{w:World}{K:PySem.W.Frag}{mg:Str->Option Value}{base:Heap}{A:Around}{outer:List Env}{s:Shared}{H:Hp}(e:Env0 P w K mg base A outer s H)(C:Addr)(us:List Value)(kw:List (Str×Value)) :
  Env0 P w K mg base (A.under (.builtin "type.__call__" ⟨.ref C::us,kw⟩)) outer s H:=⟨by first | exact e.frames | (simpa [Around.under,Code.envs,Code.isFrame,pushEnvs] using e.frames),e.mod,e.bs,e.bsz,e.funs,e.frf,e.hok,e.bare⟩
section
variable{X:Cx}{pins:List (Addr×Obj)}{σ:St}{H:Hp}{s s':Shared}
theorem Inv.env0(I:Inv X pins σ H s):Env0 X.prog X.w X.K X.mg X.base X.A X.stack s H :=
 ⟨I.ok.frames,I.ok.mod,I.bs,Nat.le_trans I.ok.bsz I.sz,I.stack,I.stkFree,I.hok,I.bare⟩
theorem Inv.after{Q:VK}{u:Value}(I:Inv X pins σ H s)(h:CE X.stack X.prog X.w H s Q u s'):EP X pins σ Q u s':=by
 obtain⟨v,H',os,bare,un,hok,r,q⟩:=h
 obtain⟨hh,g,d,t,os'⟩:=s'
 obtain rfl:os'=s.os:=os
 exact⟨v,H',I.call (h':=hh) (g':=g) (d':=d) (t':=t) (ch:=[]) un hok bare (fun b z=>absurd z (by simp)),r,q⟩
end
noncomputable def Xm(sp:Sp)(dvs:List V)(E:XK)(t:TA):TE:=fun σ H Q=>t σ H fun vs H1=>sp (vs++dvs) H1 Q E
noncomputable def Ye(C:Addr)(m:Str)(sp:Sp)(dvs:List V)(E:XK)(ta:TE)(t:TA):TE:=fun σ H Q=>ta σ H fun x H1=>∃a dx fs,x = .ref a/\H1 a=some (.ins C dx fs)/\fs.lookup m=none /\
 t σ H1 fun vs H2=>sp (x ::(vs++dvs)) H2 Q E
noncomputable def Yu(C:Addr)(sp:Sp)(dvs:List V)(E:XK)(t:TA):TE:=fun σ H Q=>t σ H fun vs H1=>∀x dx,H1 x=none->H1 dx=none->dx≠x ->
 sp (.ref x ::(vs++dvs)) (upd (upd H1 dx (.own x)) x (.ins C dx [])) (fun v H2=>v = .non/\Q (.ref x) H2) E
noncomputable def Binds(K:PySem.W.Frag)(fd:FuncData)(ps:List Str)(ds:List Value):Prop :=
 ∀(s:Shared) (us:List Value),K.In s.heap->(us++ds).length=ps.length->BindsTo s fd ⟨us,[]⟩ (ps.zip (us++ds))
theorem Binds.all{K:PySem.W.Frag}{fd:FuncData}{ps:List Str}(h:∀us:List Value,us.length=ps.length->bindArgs fd ⟨us,[]⟩=pure (ps.zip us)):Binds K fd ps []:=fun s us _ hl=>by
 rw[List.append_nil]at hl⊢
 exact .of_eq (h us hl)
noncomputable def An(CX:CXT)(X:Cx)(E:XK):Prop:=∀(pins:List (Addr×Obj)) (σ:St) (H:Hp) (s:Shared) (e:Value) (s':Shared),Inv X pins σ H s->CX X.stack H s E e s'->X.xe e s'
section
variable{X:Cx}{CX:CXT}{k:Nat}{f C:Addr}{fd:FuncData}{ps:List Str}{sp:Sp}{dvs:List V}{ds:List Value}{E:XK}{x m:Str}{p pos apos:Pos}{e o:Expr}{es:List Expr}{ta:TE}{t:TA}
theorem Nb{pins:List (Addr×Obj)}{σ:St}{H:Hp}{s:Shared}{Q:VK}{us:List Value}{vs:List V}(F:FnOk X.prog X.w X.K X.mg X.base CX k f fd ps sp)(hr:Room k X.A)(hb:Binds X.K fd ps ds)(hd:Vals dvs ds)(hx:An CX X E)
  (I:Inv X pins σ H s) (r:Vals vs us) (h:sp (vs++dvs) H Q E):wpAny (model X.prog X.w) X.A (call (.ref f) us) (EP X pins σ Q) X.xe s:=by
 have r2:Vals (vs++dvs) (us++ds):=r.append hd
 have hl:(us++ds).length=ps.length:=by rw[<-r2.length];exact F.len _ _ _ _ h
 refine wpAny_call (codeAny_mono (F.run X.A X.stack s H ⟨us,[]⟩ (us++ds) (vs++dvs) Q E hr I.env0 (hb s us I.kIn hl) r2 h) fun r s' hq=>?_)
 cases r with
 | error e=>exact hx pins σ H s e s' I hq
 | ok fl =>
  cases fl with
  | ret u=>exact I.after hq
  | next=>exact False.elim hq
  | brk=>exact False.elim hq
  | cont=>exact False.elim hq
theorem Uc(F:FnOk X.prog X.w X.K X.mg X.base CX k f fd ps sp)(hr:Room k X.A)(hg:Gl X x)(hm:X.mg x=some (.ref f))(hk:PySem.W.keepIn X.K (.ref f)=true)(hb:Binds X.K fd ps ds)(hd:Vals dvs ds)(hx:An CX X E)
  (ha:PA X (e::es) t) (hdb:(x ==("__debug__":Str))=false:=by decide) (he:starEach (e::es) X.env =(false,eval e X.env)::starEach es X.env:=by rfl) (hpl:(backTo pos (starEach es X.env)).any (·.1)=false:=by rfl) :
  PE X (.Call (.Name x p) (e::es) [] pos) (Xm sp dvs E t):=by
 intro pins s σ H Q I h
 refine wpAny_Call_Name_kw (Ht I hg hm ?_ hdb)
 refine PySem.W.callWith_K (h₀:=X.base) I.ok.mod.kin hk (thn (ha pos pins s σ H _ I h) fun us s1 ⟨vs,H1,I1,r,q⟩=>⟨I1.kIn,?_⟩) he hpl
 exact Nb F hr hb hd hx I1 r q
theorem c9{pl:Sem Bool}(he:PE X o ta)(c:Cls X.K C)(hm:Meth X.K C m f)(F:FnOk X.prog X.w X.K X.mg X.base CX k f fd ps sp)(hr:Room k X.A)(hb:Binds X.K fd ps ds)(hd:Vals dvs ds)(hx:An CX X E)(ha:PA X (e::es) t)
  (hst:starEach (e::es) X.env =(false,eval e X.env)::starEach es X.env:=by rfl) (hpl:(backTo pos (starEach es X.env)).any (·.1)=false:=by rfl)
  (ht:eval (.Call (.Attribute o m apos) (e::es) [] pos) X.env =(do
   let ov <-eval o X.env
   standAt apos.atName
   let(f,first) <-holding [ov] (getMethod ov m pl)
   callWith pos f first (backTo pos (starEach (e::es) X.env)) (backToKw pos (keywordEach [] X.env))):=by rfl) :
  PE X (.Call (.Attribute o m apos) (e::es) [] pos) (Ye C m sp dvs E ta t):=by
 intro pins s σ H Q I h
 refine PySem.W.methodCall_KW (pl:=pl) (thn (he pins s σ H _ I h) fun u s1 ⟨x,H1,I1,rx,a,dx,fs,ex,ea,l,q⟩=>?_) ht
 subst ex
 obtain rfl:u=Value.ref a:=rx
 refine Bi I1 ea c hm l ?_
 refine PySem.W.callWith_K (first:=[.ref a]) (h₀:=X.base) I.ok.mod.kin hm.kp (thn (ha pos pins s1 σ H1 _ I1 q) fun us s2 ⟨vs,H2,I2,r,q2⟩=>⟨I2.kIn,?_⟩) hst hpl
 exact Nb (us:=.ref a::us) (vs:=.ref a::vs) F hr hb hd hx I2 (.cons rfl r) q2
theorem W6{pl:Sem Bool}(he:PE X o ta)(c:Cls X.K C)(hm:Meth X.K C m f)(F:FnOk X.prog X.w X.K X.mg X.base CX k f fd ps sp)(hr:Room k X.A)(hb:Binds X.K fd ps ds)(hd:Vals dvs ds)(hx:An CX X E)
  (ht:eval (.Call (.Attribute o m apos) [] [] pos) X.env =(do
   let ov <-eval o X.env
   standAt apos.atName
   let(f,first) <-holding [ov] (getMethod ov m pl)
   callWith pos f first (backTo pos (starEach [] X.env)) (backToKw pos (keywordEach [] X.env))):=by rfl) :
  PE X (.Call (.Attribute o m apos) [] [] pos) (Ye C m sp dvs E ta Hk):=by
 intro pins s σ H Q I h
 refine PySem.W.methodCall_KW (pl:=pl) (thn (he pins s σ H _ I h) fun u s1 ⟨x,H1,I1,rx,a,dx,fs,ex,ea,l,q⟩=>?_) ht
 subst ex
 obtain rfl:u=Value.ref a:=rx
 refine Bi I1 ea c hm l ?_
 exact PySem.W.callWith_K0 (first:=[.ref a]) I1.kIn hm.kp (Nb (us:=[.ref a]) (vs:=[.ref a]) F hr hb hd hx I1 (.cons rfl .nil) q)
structure Mk(K:PySem.W.Frag)(C f:Addr):Prop where
 makes:PySem.W.makesIn K C=true
 init:PySem.W.findIn K (.ref C) "__init__" = some (some (.ref f))
 fn:PySem.W.isFn K (.ref f)=true
 kp:PySem.W.keepIn K (.ref C)=true
theorem Px{pins:List (Addr×Obj)}{σ:St}{H:Hp}{s:Shared}{Q:VK}{us:List Value}{vs:List V}(M:Mk X.K C f)(F:FnOk X.prog X.w X.K X.mg X.base CX k f fd ps sp)(hr:Room (k+1) X.A)(hb:Binds X.K fd ps ds)(hd:Vals dvs ds)
  (hx:An CX X E) (I:Inv X pins σ H s) (r:Vals vs us)
  (h:∀x dx,H x=none->H dx=none->dx≠x->sp (.ref x ::(vs++dvs)) (upd (upd H dx (.own x)) x (.ins C dx [])) (fun v H2=>v = .non/\Q (.ref x) H2) E) :
  wpAny (model X.prog X.w) X.A (call (.ref C) us) (EP X pins σ Q) X.xe s:=by
 have hq:=h (s.heap.objs.size+1) s.heap.objs.size (I.hok.fresh (Nat.le_succ _)) (I.hok.fresh (Nat.le_refl _)) (Nat.ne_of_lt (Nat.lt_succ_self _))
 have I2:=Inv.made (C:=C) I
 have r2:Vals (V.ref (s.heap.objs.size+1) ::(vs++dvs)) (Value.ref (s.heap.objs.size+1) ::(us++ds)):=.cons rfl (r.append hd)
 have hl:(Value.ref (s.heap.objs.size+1)::us++ds).length=ps.length:=by
  have e:=r2.length
  rw[F.len _ _ _ _ hq]at e
  exact e.symm
 refine wpAny_call (Qe (f:=f) I.kIn M.makes M.init (beq_iff_eq.mp M.fn) (codeAny_mono (F.run _ X.stack _ _ ⟨Value.ref (s.heap.objs.size+1)::us,[]⟩ (Value.ref (s.heap.objs.size+1) ::(us++ds)) _ _ E (hr.make C us [])
  (I2.env0.make C us []) (hb _ (Value.ref (s.heap.objs.size+1)::us) I2.kIn hl) r2 hq) fun r s' hq'=>?_))
 cases r with
 | error e=>exact hx pins σ _ _ e s' I2 hq'
 | ok fl =>
  cases fl with
  | ret u =>
   obtain⟨v,H',I3,rv,ev,q3⟩:=I2.after hq'
   subst ev
   exact⟨rv,⟨V.ref (s.heap.objs.size+1),H',I3,rfl,q3⟩⟩
  | next=>exact False.elim hq'
  | brk=>exact False.elim hq'
  | cont=>exact False.elim hq'
theorem Te(M:Mk X.K C f)(F:FnOk X.prog X.w X.K X.mg X.base CX k f fd ps sp)(hr:Room (k+1) X.A)(hg:Gl X x)(hm:X.mg x=some (.ref C))(hb:Binds X.K fd ps ds)(hd:Vals dvs ds)(hx:An CX X E)
  (ha:PA X (e::es) t) (hdb:(x ==("__debug__":Str))=false:=by decide) (he:starEach (e::es) X.env =(false,eval e X.env)::starEach es X.env:=by rfl) (hpl:(backTo pos (starEach es X.env)).any (·.1)=false:=by rfl) :
  PE X (.Call (.Name x p) (e::es) [] pos) (Yu C sp dvs E t):=by
 intro pins s σ H Q I h
 refine wpAny_Call_Name_kw (Ht I hg hm ?_ hdb)
 refine PySem.W.callWith_K (h₀:=X.base) I.ok.mod.kin M.kp (thn (ha pos pins s σ H _ I h) fun us s1 ⟨vs,H1,I1,r,q⟩=>⟨I1.kIn,?_⟩) he hpl
 exact Px M F hr hb hd hx I1 r q
end
structure FnScope(N P:List Str)(sc:Scope):Prop where
 kind:sc.kind = .function
 co:sc.isCoroutine=false
 gen:sc.isGenerator=false
 nd:N.Nodup
 pre:N.take P.length=P
 par:∀x∈P,sc.names.lookup x=some .local\/sc.names.lookup x=some .cell
 nofree:∀y∈sc.names,y.2≠ .free
theorem Ev{kindOf:Str->Option NameKind}{x:Str}:∀{binds:List (Str×Value)} {m:Str->Option Value},(∀v,(x,v)∉binds)->bindL kindOf binds m x=m x
 | [],_,_=>rfl
 | (n,v)::r,m,h=>by
  unfold bindL
  rw[Ev fun w hw=>h w (List.mem_cons_of_mem _ hw)]
  split
  ·have:x≠n:=by rintro rfl;exact h v List.mem_cons_self
   simp[this]
  ·rfl
theorem Fi{kindOf:Str->Option NameKind}{x:Str}:∀{binds:List (Str×Value)} {m:Str->Option Value},(∀v,(x,v)∉binds)->bindC kindOf binds m x=m x
 | [],_,_=>rfl
 | (n,v)::r,m,h=>by
  unfold bindC
  rw[Fi fun w hw=>h w (List.mem_cons_of_mem _ hw)]
  split
  ·rfl
  ·have:x≠n:=by rintro rfl;exact h v List.mem_cons_self
   simp[this]
theorem Fz{kindOf:Str->Option NameKind}{x:Str}{v:Value}:∀{P:List Str} {vs:List Value} {i:Nat} {m:Str->Option Value},P.Nodup->P[i]?=some x->vs[i]?=some v->kindOf x=some .local ->
  bindL kindOf (P.zip vs) m x=some v
 | [],_,_,_,_,h,_,_=>by simp at h
 | _::_,[],_,_,_,_,h,_=>by simp at h
 | p::P,w::vs,0,m,nd,h1,h2,hk=>by
  simp at h1 h2;subst h1;subst h2
  show bindL kindOf ((p,w)::P.zip vs) m p=_
  unfold bindL
  rw[Ev fun v hv=>(List.nodup_cons.mp nd).1 (List.of_mem_zip hv).1,if_pos hk]
  simp
 | p::P,w::vs,i+1,m,nd,h1,h2,hk=>by
  show bindL kindOf ((p,w)::P.zip vs) m x=_
  unfold bindL
  exact Fz (i:=i) (List.nodup_cons.mp nd).2 (by simpa using h1) (by simpa using h2) hk
theorem Ge{kindOf:Str->Option NameKind}{x:Str}{v:Value}:∀{P:List Str} {vs:List Value} {i:Nat} {m:Str->Option Value},P.Nodup->P[i]?=some x->vs[i]?=some v->kindOf x≠some .local ->
  bindC kindOf (P.zip vs) m x=some v
 | [],_,_,_,_,h,_,_=>by simp at h
 | _::_,[],_,_,_,_,h,_=>by simp at h
 | p::P,w::vs,0,m,nd,h1,h2,hk=>by
  simp at h1 h2;subst h1;subst h2
  show bindC kindOf ((p,w)::P.zip vs) m p=_
  unfold bindC
  rw[Fi fun v hv=>(List.nodup_cons.mp nd).1 (List.of_mem_zip hv).1,if_neg hk]
  simp
 | p::P,w::vs,i+1,m,nd,h1,h2,hk=>by
  show bindC kindOf ((p,w)::P.zip vs) m x=_
  unfold bindC
  exact Ge (i:=i) (List.nodup_cons.mp nd).2 (by simpa using h1) (by simpa using h2) hk
noncomputable def Ee(N:List Str)(vs:List V):St:=vs.map some++List.replicate (N.length-vs.length) none
noncomputable def Vf(CX:CXT)(P:Program)(w:World)(K:PySem.W.Frag)(mg:Str->Option Value)(base:Heap)(N:List Str)(qual:Str)(scope:Scope)(f:Addr)(cd:Value)(A:Around)(outer:List Env)(s:Shared)(H:Hp)(E:XK):Cx where
 prog:=P
 w:=w
 K:=K
 mg:=mg
 base:=base
 A:=A.deeper (envOfC qual scope s.heap.objs.size f cd)
 N:=N
 s₀:=s
 H₀:=H
 env:=envOfC qual scope s.heap.objs.size f cd
 outer:=outer
 stack:=envOfC qual scope s.heap.objs.size f cd::outer
 ex:=[]
 calm:=true
 fn:=fun _=>true
 pn:=[]
 xe:=fun e s'=>wpAny (model P w) (A.deeper (envOfC qual scope s.heap.objs.size f cd)) (leaving (envOfC qual scope s.heap.objs.size f cd) e) (fun _ s''=>CX outer H s E e s'') (fun e' s''=>CX outer H s E e' s'') s'
theorem Ip{sc:Scope}{n:Nat}{x:Str}(h:sc.names.lookup x=some .cell):∃c,(cellsFrom n sc.names []).lookup x=some c:=by
 have q:=PySem.W.cellsFrom_some sc.names n [] (.inl h)
 exact Option.isSome_iff_exists.mp q
theorem Oc{CX:CXT}{P:Program}{w:World}{K:PySem.W.Frag}{mg:Str->Option Value}{base:Heap}{N ps:List Str}{qual:Str}{scope:Scope}{f:Addr}{cd:Value}{A:Around}{outer:List Env}{s s1:Shared}{H:Hp}{E:XK}{us:List Value}{vs:List V}
  (S:FnScope N ps scope) (hd:A.handled=none) (e0:Env0 P w K mg base A outer s H) (hl:vs.length=ps.length) (r:Vals vs us)
  (x:InCallC s s.heap.objs.size (bindL (envOfC qual scope s.heap.objs.size f cd).kindOf (ps.zip us) fun _=>none) (cellsFrom (s.heap.objs.size+1) scope.names []) (bindC (envOfC qual scope s.heap.objs.size f cd).kindOf (ps.zip us) fun _=>none) s1) :
  Inv (Vf CX P w K mg base N qual scope f cd A outer s H E) [] (Ee N vs) H s1:=by
 have hpl:ps.length<=N.length:=by have:=congrArg List.length S.pre;rw[List.length_take]at this;omega
 obtain⟨h1,tk,rfl,hk⟩:=x.done
 have noA:∀b:Addr,b∉(Vf CX P w K mg base N qual scope f cd A outer s H E).ex:=fun b z=>absurd (show b∈([]:List Addr)from z) (by simp)
 refine⟨⟨e0.mod,S.kind,rfl,rfl,Nat.le_refl _,fun y z c h1 h2=>?_,fun y hy=>?_,fun y c _ h=>?_,fun _=>hd,Around.frames_deeper e0.frames,.inr ⟨rfl,rfl⟩,fun b z=>absurd z (noA b),e0.bs,e0.bsz,fun b _ _=>noA b,fun b z=>absurd z (noA b),e0.funs,e0.frf⟩,
  rfl,e0.bare,Un.kept hk,⟨_,x.toInCall.ns,fun i y v h1 h2 h3=>?_⟩,fun y c h=>⟨_,x.cell y c h⟩,e0.hok.fresh (Nat.le_refl _),fun y c h=>?_,fun p hp=>absurd (show p∈([]:List (Addr×Obj))from hp) (by simp),e0.hok.kept hk,?_⟩
 ·exact name_of_addr x.apart (PySem.mem_of_lookup h1) (PySem.mem_of_lookup h2)
 ·have hy:scope.names.lookup y=some .cell\/scope.names.lookup y=some .free:=hy
  rcases hy with hy | hy
  ·exact Ip hy
  ·exact absurd rfl (S.nofree _ (PySem.mem_of_lookup hy))
 ·exact Nat.le_of_lt (x.above y c (PySem.mem_of_lookup h))
 ·have hi:i<vs.length:=by
   unfold Ee at h2
   by_cases hi:i<vs.length
   ·exact hi
   ·rw[List.getElem?_append_right (by simpa using hi)]at h2
    rw[List.getElem?_replicate]at h2
    split at h2<;>cases h2
  have ha:vs[i]?=some v:=by
   unfold Ee at h2
   rw[List.getElem?_append_left (by simpa using hi),List.getElem?_map]at h2
   cases e:vs[i]? with
   | none=>rw[e]at h2;cases h2
   | some a=>rw[e]at h2;cases h2;rfl
  obtain⟨u,hu,rv⟩:=r.get ha
  have hp:ps[i]?=some y:=by
   rw[<-S.pre,List.getElem?_take_of_lt (by omega)];exact h1
  have ndP:ps.Nodup:=by rw[<-S.pre];exact S.nd.sublist (List.take_sublist _ _)
  refine⟨u,rv,?_⟩
  rcases S.par y (List.mem_of_getElem? hp)with k | k
  ·exact .inl ⟨k,Fz ndP hp hu k⟩
  ·obtain⟨c,e⟩:=Ip (n:=s.heap.objs.size+1) k
   refine .inr ⟨.inl k,c,e,?_⟩
   have q:=x.cell y c e
   rw[Ge ndP hp hu (by show scope.names.lookup y≠_;rw[k];decide)]at q
   exact q
 ·exact e0.hok.fresh (Nat.le_of_lt (x.above y c (PySem.mem_of_lookup h)))
 ·unfold Ee
  show _=N.length
  rw[List.length_append,List.length_map,List.length_replicate]
  omega
theorem Zp{CX:CXT}{P:Program}{w:World}{K:PySem.W.Frag}{mg:Str->Option Value}{base:Heap}{k:Nat}{f:Addr}{name qual:Str}{params:Arguments}{body:List Stmt}{scope:Scope}{dV kV doc pm cdv ct oc:Value}{an od:Option Addr}
  {osl:Array (Option Value)} {N ps:List Str} {sp:Sp} (lk:K.lookup f=some ⟨oc,od,.func (PySem.W.fnOf name qual params body scope dV kV doc pm an cdv ct),osl⟩) (hcd:PySem.W.codeIn K cdv qual=true) (S:FnScope N ps scope)
  (len:∀vs H Q E,sp vs H Q E->vs.length=ps.length)
  (hbody:∀(A:Around) (outer:List Env) (s:Shared) (H:Hp) (vs:List V) (Q:VK) (E:XK),Room k (A.deeper (envOfC qual scope s.heap.objs.size f cdv))->sp vs H Q E ->
   ∃t,PSs (Vf CX P w K mg base N qual scope f cdv A outer s H E) body t/\t { nx:=fun _ H'=>Q .non H',rt:=Q } (Ee N vs) H) :
  FnOk P w K mg base CX (k+1) f (PySem.W.fnOf name qual params body scope dV kV doc pm an cdv ct) ps sp:=by
 refine⟨len,fun A outer s H args us vs Q E hr e0 hb r hsp=>?_⟩
 have hl:=len _ _ _ _ hsp
 have KX:K.In s.heap:=e0.mod.kin.keeps fun b o e=>(e0.bs b o e).1
 have lim:s.heap.NoLimit:=e0.mod.nolimit.keeps fun b o e=>(e0.bs b o e).1
 have hkind:∀y∈ps.zip us,scope.names.lookup y.1=some .local\/(scope.names.lookup y.1=some .cell/\((cellsFrom (s.heap.objs.size+1) scope.names []).lookup y.1).isSome=true):=fun⟨n,v⟩ hy=>by
  rcases S.par n (List.of_mem_zip hy).1 with q | q
  ·exact .inl q
  ·exact .inr ⟨q,PySem.W.cellsFrom_some _ _ _ (.inl q)⟩
 refine codeAny_call_function hr.depth (KX _ _ lk) rfl S.co S.gen rfl (PySem.W.codeRec_of KX hcd) (hb _ _ _ _ ?_)
 refine wpAny_newFunctionEnv_cells S.kind hkind fun env he s1 x=>?_
 subst he
 refine⟨lim.keeps x.toInCall.keep,codeAny_func ?_⟩
 obtain⟨t,ht,hq⟩:=hbody A outer s H vs Q E (hr.deeper _) hsp
 have I:Inv (Vf CX P w K mg base N qual scope f cdv A outer s H E) [] (Ee N vs) H s1:=Oc S hr.hd e0 hl r x
 refine wpAny_mono (ht [] s1 (Ee N vs) H _ I hq) (fun fl s' hs=>?_) fun e s' hs=>hs
 have fin:∀{σ':St} {H':Hp} {v:V} {u:Value},Inv (Vf CX P w K mg base N qual scope f cdv A outer s H E) [] σ' H' s'->RelV v u->Q v H'->CE outer P w H s Q u s' :=
  fun{σ' H' v u} J rv q=>⟨v,H',J.os,J.bare,J.base,J.hok,rv,q⟩
 cases fl with
 | ret u =>
  obtain⟨v,σ',H',J,rv,q⟩:=hs
  exact fin J rv q
 | next =>
  obtain⟨σ',H',J,q⟩:=hs
  exact fin (v:=V.non) (u:=Value.none) J rfl q
 | brk =>
  obtain⟨_,_,_,q⟩:=hs
  exact False.elim q
 | cont =>
  obtain⟨_,_,_,q⟩:=hs
  exact False.elim q
section
variable{X:Cx}{x:Str}{p pos:Pos}{e:Expr}{es:List Expr}{t:TA}{id T:String}{r:List V->Hp->VK->Prop}
noncomputable def tCB(r:List V->Hp->VK->Prop)(t:TA):TE:=fun σ H Q=>t σ H fun vs H1=>r vs H1 Q
theorem Ph(hc:G5 X (.builtin id) r)(hg:Gl X x)(hm:X.mg x=none)(hv:bootBuiltins x=some (.builtin id))(ha:PA X (e::es) t)(hn:x≠ "__name__":=by decide)(hdb:(x ==("__debug__":Str))=false:=by decide)
  (he:starEach (e::es) X.env =(false,eval e X.env)::starEach es X.env:=by rfl) (hpl:(backTo pos (starEach es X.env)).any (·.1)=false:=by rfl):PE X (.Call (.Name x p) (e::es) [] pos) (tCB r t):=by
 intro pins s σ H Q I h
 refine wpAny_Call_Name_kw (g9 I hg hm hv ?_ hn hdb)
 exact PyProof.Rows.callWith_builtin1 (thn (ha pos pins s σ H _ I h) fun us s1 ⟨vs,H1,I1,r1,q1⟩=>hc pins s1 σ H1 vs us Q I1 r1 q1) he hpl
theorem Oh(hc:G5 X (.type T) r)(hg:Gl X x)(hm:X.mg x=none)(hv:bootBuiltins x=some (.type T))(ha:PA X (e::es) t)(hn:x≠ "__name__":=by decide)(hdb:(x ==("__debug__":Str))=false:=by decide)
  (he:starEach (e::es) X.env =(false,eval e X.env)::starEach es X.env:=by rfl) (hpl:(backTo pos (starEach es X.env)).any (·.1)=false:=by rfl):PE X (.Call (.Name x p) (e::es) [] pos) (tCB r t):=by
 intro pins s σ H Q I h
 refine wpAny_Call_Name_kw (g9 I hg hm hv ?_ hn hdb)
 exact PyProof.Rows.callWith_type1 (thn (ha pos pins s σ H _ I h) fun us s1 ⟨vs,H1,I1,r1,q1⟩=>hc pins s1 σ H1 vs us Q I1 r1 q1) he hpl
theorem Bo(hc:G5 X (.type T) r)(hg:Gl X x)(hm:X.mg x=none)(hv:bootBuiltins x=some (.type T))(hn:x≠ "__name__":=by decide)(hdb:(x ==("__debug__":Str))=false:=by decide) :
  PE X (.Call (.Name x p) [] [] pos) (tCB r Hk):=by
 intro pins s σ H Q I h
 refine wpAny_Call_Name_kw (g9 I hg hm hv ?_ hn hdb)
 exact PyProof.Rows.callWith_type0 (hc pins s σ H [] [] Q I .nil h)
end
end L2
namespace HT
open PySem PyProof.Rows
section
variable{prog:Program}{w:World}{A:Around}{E:Value->Shared->Prop}{s:Shared}
noncomputable def sIx(n d:Nat):Option Int->Nat
 | none=>d
 | some v=>if v<0 then(v +(n:Int)).toNat else min v.toNat n
theorem sIx_none(n d:Nat):sIx n d none=d:=rfl
theorem sIx_nat(n d k:Nat):sIx n d (some (k:Int))=min k n:=by
 show(if(k:Int)<0 then((k:Int) +(n:Int)).toNat else min (k:Int).toNat n)=min k n
 rw[if_neg (by omega),Int.toNat_natCast]
end
end HT
namespace L2
open PySem PySem.Spec PyProof.Rows
noncomputable abbrev TO:=St->Hp->(Option Int->Hp->Prop)->Prop
noncomputable def PO(X:Cx)(e:Option Expr)(t:TO):Prop :=
 ∀(pins:List (Addr×Obj)) (s:Shared) (σ:St) (H:Hp) (Q:Option Int->Hp->Prop),Inv X pins σ H s->t σ H Q ->
  wpAny (model X.prog X.w) X.A (evalPart e X.env) (fun u s'=>∃o H',Inv X pins σ H' s'/\IsPart u o/\Q o H') X.xe s
noncomputable def Vb:TO:=fun _ H Q=>Q none H
noncomputable def Zi(t:TE):TO:=fun σ H Q=>t σ H fun x H1=>∃i,x = .int i/\Q (some i) H1
section
variable{X:Cx}{e:Expr}{te:TE}{lo hi:Option Expr}{tl th:TO}{pos p2:Pos}
theorem Ng:PO X none Vb:=by
 intro pins s σ H Q I h
 rw[evalPart_none]
 exact wpAny_pure ⟨none,H,I,.none,h⟩
theorem Ls(h:PE X e te):PO X (some e) (Zi te):=by
 intro pins s σ H Q I hw
 rw[evalPart_some]
 refine thn (h pins s σ H _ I hw) fun u s1 ⟨x,H1,I1,r1,q1⟩=>?_
 obtain⟨i,rfl,q⟩:=q1
 obtain⟨t,rfl⟩:=r1
 exact⟨some i,H1,I1,.int i t,q⟩
noncomputable def SlR(X:Cx)(r:V->Option Int->Option Int->Hp->VK->Prop):Prop :=
 ∀(pins:List (Addr×Obj)) (s:Shared) (σ:St) (H:Hp) (x:V) (v vl vu:Value) (lo hi:Option Int) (sl:Addr) (Q:VK),Inv X pins σ H s->RelV x v->s.heap.IsSliceOf sl vl vu .none->IsPart vl lo->IsPart vu hi->r x lo hi H Q ->
  ∃T id,typeLookup (.type T) "__getitem__" = pure (some (.builtin id))/\s.TypeIs v T/\wpAny (model X.prog X.w) X.A (getItem v (.ref sl)) (EP X pins σ Q) X.xe s
noncomputable def tSl(r:V->Option Int->Option Int->Hp->VK->Prop)(te:TE)(tl th:TO):TE:=fun σ H Q=>te σ H fun x H1=>tl σ H1 fun l H2=>th σ H2 fun u H3=>r x l u H3 Q
theorem Ji{r:V->Option Int->Option Int->Hp->VK->Prop}(hr:SlR X r)(he:PE X e te)(hl:PO X lo tl)(hu:PO X hi th):PE X (.Subscript e (.Slice lo hi none p2) pos) (tSl r te tl th):=by
 intro pins s σ H Q I h
 refine Subscript_ (thn (he pins s σ H _ I h) fun v s1 ⟨x,H1,I1,r1,q1⟩=>?_)
 refine wpAny_Slice (thn (hl pins s1 σ H1 _ I1 q1) fun vl s2 ⟨l,H2,I2,pl,q2⟩=>thn (hu pins s2 σ H2 _ I2 q2) fun vu s3 ⟨u,H3,I3,pu,q3⟩=>?_)
 rw[evalPart_none]
 refine wpAny_pure ?_
 have I4:Inv X pins σ H3 { s3 with heap:=s3.heap.push { cls:=.type "slice",data:=.fields #[vl,vu,.none] } }:=I3.kept (t':=s3.toks) fun b ob q=>Heap.get?_push_of_some _ q
 obtain⟨T,id,hT,ht,hg⟩:=hr pins { s3 with heap:=s3.heap.push { cls:=.type "slice",data:=.fields #[vl,vu,.none] } } σ H3 x v vl vu l u s3.heap.objs.size Q I4 r1 (Heap.IsSliceOf.new ..) pl pu q3
 show wpAny (model X.prog X.w) X.A (subscriptTail e (.Slice lo hi none p2) v (.ref s3.heap.objs.size)) (EP X pins σ Q) X.xe { s3 with heap:=s3.heap.push { cls:=.type "slice",data:=.fields #[vl,vu,.none] } }
 exact tail_any (ops:=[.ref s3.heap.objs.size,v]) ht hT hg (by with_unfolding_all rfl)
noncomputable def Sj(xs:List V)(lo hi:Option Int):List V:=(xs.drop (HT.sIx xs.length 0 lo)).take (HT.sIx xs.length xs.length hi-HT.sIx xs.length 0 lo)
theorem Gi(xs:List V)(lo hi:Option Int):(Sj xs lo hi).length<=xs.length:=by
 unfold Sj
 rw[List.length_take,List.length_drop]
 omega
end
noncomputable def ixN(n:Nat)(i:Int):Option Nat:=if 0<=i then(if i<n then some i.toNat else none)else if -(n:Int)<=i then some (i+n).toNat else none
noncomputable def atI{α:Type}(xs:List α)(i:Int):Option α:=(ixN xs.length i).bind fun j=>xs[j]?
theorem Om{n:Nat}{i:Int}{j:Nat}(h:ixN n i=some j):seqIndex? i n=some j/\j<n/\-(n:Int)<=i/\i<n:=by
 unfold ixN at h
 by_cases h0:0<=i
 ·rw[if_pos h0]at h
  by_cases h1:i<n
  ·rw[if_pos h1]at h
   have e:i.toNat=j:=Option.some.inj h
   exact⟨by rw[seqIndex_of h0 h1,e],by omega,by omega,h1⟩
  ·rw[if_neg h1]at h;cases h
 ·rw[if_neg h0]at h
  by_cases h1:-(n:Int)<=i
  ·rw[if_pos h1]at h
   have e:(i+n).toNat=j:=Option.some.inj h
   exact⟨by rw[seqIndex_neg (by omega) h1,e],by omega,h1,by omega⟩
  ·rw[if_neg h1]at h;cases h
theorem Mq{α:Type}{xs:List α}{i:Int}{v:α}(h:atI xs i=some v):∃j,seqIndex? i xs.length=some j/\xs[j]?=some v/\j<xs.length/\-(xs.length:Int)<=i/\i<xs.length:=by
 unfold atI at h
 cases e:ixN xs.length i with
 | none=>rw[e]at h;cases h
 | some j =>
  rw[e]at h
  obtain⟨h1,h2,h3,h4⟩:=Om e
  exact⟨j,h1,h,h2,h3,h4⟩
theorem U6{α:Type}{xs:List α}{j:Nat}{v:α}(h:xs[j]?=some v):atI xs (j:Int)=some v:=by
 have hj:j<xs.length:=(List.getElem?_eq_some_iff.mp h).1
 have e:ixN xs.length (j:Int)=some j:=by
  unfold ixN
  rw[if_pos (by omega),if_pos (by omega)];simp
 unfold atI;rw[e];exact h
noncomputable def Tz(b:Expr):Prop:=∀o i,subscripted b false o i=operate [o,i] (getItem o i)
noncomputable def IxR(X:Cx)(r:R2):Prop :=
 ∀(value slice:Expr) (pins:List (Addr×Obj)) (s:Shared) (σ:St) (H:Hp) (x y:V) (v u:Value) (Q:VK),Inv X pins σ H s->RelV x v->RelV y u->r x y H Q ->
  subscripted slice false v u=operate [v,u] (getItem v u)->wpAny (model X.prog X.w) X.A (subscriptTail value slice v u) (EP X pins σ Q) X.xe s
noncomputable def MtR(X:Cx)(id:String)(r:V->List V->Hp->VK->Prop):Prop :=
 ∀(pins:List (Addr×Obj)) (s:Shared) (σ:St) (H:Hp) (x:V) (xs:List V) (v:Value) (us:List Value) (Q:VK),Inv X pins σ H s->RelV x v->Vals xs us->r x xs H Q ->
  wpAny (model X.prog X.w) X.A (call (.builtin id) (v::us)) (EP X pins σ Q) X.xe s
section
variable{X:Cx}{a b:Expr}{ta tb:TE}{pos:Pos}
theorem G9{r:R2}(hr:IxR X r)(ha:PE X a ta)(hb:PE X b tb)(hs:Tz b):PE X (.Subscript a b pos) (tOp r ta tb):=by
 intro pins s σ H Q I h
 exact Subscript_ (Ys ha hb I h fun v u s2 x y H2 I2 rx ry q=>hr a b pins s2 σ H2 x y v u Q I2 rx ry q (hs _ _))
noncomputable def zAo(K:PySem.W.Frag):R2:=fun x y H Q=>∃p xs i v,x = .ref p/\y = .int i/\SqL K H p xs/\atI xs i=some v/\Q v H
noncomputable def zAz(K:PySem.W.Frag):R2:=fun x y H Q=>∃p xs i v,x = .ref p/\y = .int i/\SqT K H p xs/\atI xs i=some v/\Q v H
theorem Ug:IxR X (zAo X.K):=by
 intro value slice pins s σ H x y v u Q I rx ry h hs
 obtain⟨p,xs,i,z,rfl,rfl,hq,he,q⟩:=h
 cases rx
 obtain⟨t,rfl⟩:=ry
 obtain⟨its,r,pl,hz⟩:=I.list hq
 obtain⟨j,h1,h2,h3,h4,h5⟩:=Mq he
 obtain⟨w,ew,rw'⟩:=r.get h2
 have hl:=r.length
 have hn:=Ef
 have fin:EP X pins σ Q w s:=⟨z,H,I,rw',q⟩
 by_cases h0:0<=i
 ·have hj:i.toNat=j:=by
   rw[seqIndex_of h0 h5]at h1
   exact Option.some.inj h1
  exact item_listR pl.isList h0 (by omega) (by rw[hj];simpa using ew) fin hs
 ·have hj:(i +(its.toArray.size:Int)).toNat=j:=by
   rw[seqIndex_neg (by omega) h4]at h1
   rw[List.size_toArray,<-hl]
   exact Option.some.inj h1
  exact subscriptTail_builtinR (x:=w) pl.isList.typeIs slot_list_getitem.lookup
   (wpAny_getItem_list_neg (Q:=fun r s'=>r=w/\EP X pins σ Q r s') pl.isList (by omega) (by rw[List.size_toArray]<;>omega) (by omega) (by rw[hj];simpa using ew) ⟨rfl,fin⟩) hs
theorem Yi:IxR X (zAz X.K):=by
 intro value slice pins s σ H x y v u Q I rx ry h hs
 obtain⟨p,xs,i,z,rfl,rfl,hq,he,q⟩:=h
 cases rx
 obtain⟨t,rfl⟩:=ry
 obtain⟨its,r,pl,hz⟩:=I.tuple hq
 obtain⟨j,h1,h2,h3,h4,h5⟩:=Mq he
 obtain⟨w,ew,rw'⟩:=r.get h2
 have hl:=r.length
 have hn:=Ef
 have fin:EP X pins σ Q w s:=⟨z,H,I,rw',q⟩
 exact subscriptTail_builtinR (x:=w) pl.typeIs slot_tuple_getitem.lookup
  (getItem_tuple (j:=j) (Q:=fun r s'=>r=w/\EP X pins σ Q r s') pl (by omega) (by omega) (by rw[List.size_toArray,<-hl];exact h1) (by simpa using ew) ⟨rfl,fin⟩) hs
theorem Jw(its:List Value)(n j:Nat)(u:Value):Obj.mapSeq (·.setIfInBounds j u) { cls:=.type "list",data:=.seq its.toArray n } ={ cls:=.type "list",data:=.seq (its.set j u).toArray n }:=by
 simp[Obj.mapSeq]
theorem Inv.lst{pins:List (Addr×Obj)}{σ:St}{H:Hp}{s:Shared}{p:Addr}{xs:List V}(I:Inv X pins σ H s)(h:H p=some (.lst xs)) :
  ∃(its:List Value) (n:Nat),Vals xs its/\s.heap.get? p=some { cls:=.type "list",data:=.seq its.toArray n }/\xs.length<=sizeLine:=by
 obtain⟨z,its,n,r,e⟩:=I.hok p _ h
 exact⟨its,n,r,e,z⟩
theorem Inv.lstUpd{pins:List (Addr×Obj)}{σ:St}{H:Hp}{s:Shared}{p:Addr}{xs ys:List V}{its its':List Value}{n n':Nat}{f:Obj->Obj}(I:Inv X pins σ H s)(h:H p=some (.lst xs))
  (ho:s.heap.get? p=some { cls:=.type "list",data:=.seq its.toArray n }) (hf:f { cls:=.type "list",data:=.seq its.toArray n } ={ cls:=.type "list",data:=.seq its'.toArray n' }) (r:Vals ys its') (hz:ys.length<=sizeLine) (t:Nat) :
  Inv X pins σ (upd H p (.lst ys)) { s with heap:=s.heap.update p f,toks:=t }:=by
 have e:(s.heap.update p f).get? p=some { cls:=.type "list",data:=.seq its'.toArray n' }:=by
  rw[Heap.get?_update_self f ho (by rw[hf]<;>rfl),hf]
 refine I.write (x:=p) (e:=p) (by rw[h];trivial) (.inl rfl) (fun b u hb q=>(Heap.get?_update_other _ _ (Ne.symm hb)).trans q) ⟨_,e⟩ ?_
 exact⟨hz,its',n',r,e⟩
noncomputable def zAf:V->V->V->Hp->(Hp->Prop)->Prop:=fun o i v H Q=>∃p xs k j,o = .ref p/\i = .int k/\H p=some (.lst xs)/\ixN xs.length k=some j/\Q (upd H p (.lst (xs.set j v)))
theorem o0:zBc X zAf:=by
 intro pins s σ H o i v ov iv u Q I ro ri rv h
 obtain⟨p,xs,k,j,rfl,rfl,hp,hj,q⟩:=h
 cases ro
 obtain⟨t,rfl⟩:=ri
 obtain⟨its,n,r,ho,hz⟩:=I.lst hp
 obtain⟨h1,h2,h3,h4⟩:=Om hj
 have hl:=r.length
 have hn:=Ef
 have I':Inv X pins σ (upd H p (.lst (xs.set j v))) { s with heap:=s.heap.update p (Obj.mapSeq (·.setIfInBounds j u)) } :=
  I.lstUpd hp ho (Jw its n j u) (r.set rv j) (by rw[List.length_set];exact hz) s.toks
 by_cases h0:0<=k
 ·have hk:k.toNat=j:=by
   rw[seqIndex_of h0 h4]at h1
   exact Option.some.inj h1
  exact PySem.W.ki_setAt ho h0 (by omega) (by rw[List.size_toArray,<-hl];exact h4) (by rw[hk];exact⟨_,I',q⟩)
 ·have hk:(k +(its.toArray.size:Int)).toNat=j:=by
   rw[seqIndex_neg (by omega) h3]at h1
   rw[List.size_toArray,<-hl]
   exact Option.some.inj h1
  exact PySem.W.ki_setBack ho (by omega) (by rw[List.size_toArray,<-hl];exact h3) (by omega) (by rw[hk];exact⟨_,I',q⟩)
theorem Ez(lo hi:Option Int)(n:Nat):(sliceBounds lo hi none n).1 =((HT.sIx n 0 lo:Nat):Int)/\(sliceBounds lo hi none n).2.1 =((HT.sIx n n hi:Nat):Int)/\(sliceBounds lo hi none n).2.2=1:=by
 refine⟨?_,?_,rfl⟩
 ·cases lo with
  | none=>simp[sliceBounds,HT.sIx]
  | some i =>
   simp only[sliceBounds,HT.sIx,Option.getD_none,show(1:Int)>0 by decide,if_true]
   by_cases h:i<0
   ·simp only[h,if_true]<;>omega
   ·simp only[h,if_false]<;>omega
 ·cases hi with
  | none=>simp[sliceBounds,HT.sIx]
  | some i =>
   simp only[sliceBounds,HT.sIx,Option.getD_none,show(1:Int)>0 by decide,if_true]
   by_cases h:i<0
   ·simp only[h,if_true]<;>omega
   ·simp only[h,if_false]<;>omega
theorem Ct(its:List Value)(lo hi:Option Int):slicePick its.toArray lo hi none =((its.drop (HT.sIx its.length 0 lo)).take (HT.sIx its.length its.length hi-HT.sIx its.length 0 lo)).toArray:=by
 obtain⟨h1,h2,h3⟩:=Ez lo hi its.toArray.size
 unfold slicePick
 rw[h1,h2,h3]
 simp only[sliceRange_one,pick_run,List.size_toArray]<;>rfl
noncomputable def zAv(K:PySem.W.Frag):V->Option Int->Option Int->Hp->VK->Prop:=fun x lo hi H Q=>∃a xs,x = .ref a/\SqL K H a xs/\∀p,H p=none->Q (.ref p) (upd H p (.lst (Sj xs lo hi)))
theorem Ue:SlR X (zAv X.K):=by
 intro pins s σ H x v vl vu lo hi sl Q I rx hs pl pu h
 obtain⟨a,xs,rfl,hx,q⟩:=h
 cases rx
 obtain⟨its,r,ht,hz⟩:=I.list hx
 have hlen:=r.length
 refine⟨"list",_,slot_list_getitem.lookup,ht.isList.typeIs,?_⟩
 refine wpAny_getItem_list_slice ht.isList hs pl pu .none (by simp) ?_ (by rw[List.size_toArray]<;>omega)
 rw[Ct,<-hlen]
 refine⟨.ref s.heap.objs.size,_,I.laid (t':=s.toks) (o:=.lst (Sj xs lo hi)) (fun b ob q=>Heap.get?_push_of_some _ q) (Nat.le_refl _) ?_,rfl,q _ (I.hok.fresh (Nat.le_refl _))⟩
 exact⟨Nat.le_trans (Gi xs lo hi) hz,_,0,(r.drop (HT.sIx xs.length 0 lo)).take (HT.sIx xs.length xs.length hi-HT.sIx xs.length 0 lo),Heap.get?_push_size _ rfl⟩
noncomputable def Da:V->Bool
 | .non=>true
 | .bl _=>true
 | .int _=>true
 | .str _=>true
 | _=>false
noncomputable def eqV:V->V->Bool
 | .non,.non=>true
 | .bl a,.bl b=>a == b
 | .bl a,.int b=>(if a then 1 else 0) == b
 | .int a,.bl b=>a ==(if b then 1 else 0)
 | .int a,.int b=>a == b
 | .str a,.str b=>a == b
 | _,_=>false
theorem Vx{A:Around}{s:Shared}{y x:V}{u v:Value}(ry:RelV y u)(rx:RelV x v)(fy:Da y=true)(fx:Da x=true):SeqAt.EqAt A s u v (eqV y x):=by
 cases y with
 | non =>
  cases ry
  cases x with
  | non=>cases rx;exact SeqAt.EqAt.same _
  | bl b=>cases rx;exact SeqAt.EqAt.none_bool b
  | int b=>obtain⟨t,rfl⟩:=rx;exact SeqAt.EqAt.none_int b t
  | str b=>obtain⟨t,rfl⟩:=rx;exact SeqAt.EqAt.none_str b t
  | _=>exact absurd (show false=true from fx) Bool.false_ne_true
 | bl a =>
  cases ry
  cases x with
  | non=>cases rx;exact SeqAt.EqAt.bool_none a
  | bl b=>cases rx;exact SeqAt.EqAt.bool_bool a b
  | int b=>obtain⟨t,rfl⟩:=rx;exact SeqAt.EqAt.bool_int a b t
  | str b=>obtain⟨t,rfl⟩:=rx;exact SeqAt.EqAt.bool_str a b t
  | _=>exact absurd (show false=true from fx) Bool.false_ne_true
 | int a =>
  obtain⟨t',rfl⟩:=ry
  cases x with
  | non=>cases rx;exact SeqAt.EqAt.int_none a t'
  | bl b=>cases rx;exact SeqAt.EqAt.int_bool a t' b
  | int b=>obtain⟨t,rfl⟩:=rx;exact SeqAt.EqAt.int_int a t' b t
  | str b=>obtain⟨t,rfl⟩:=rx;exact SeqAt.EqAt.int_str a t' b t
  | _=>exact absurd (show false=true from fx) Bool.false_ne_true
 | str a =>
  obtain⟨t',rfl⟩:=ry
  cases x with
  | non=>cases rx;exact SeqAt.EqAt.str_none a t'
  | bl b=>cases rx;exact SeqAt.EqAt.str_bool a t' b
  | int b=>obtain⟨t,rfl⟩:=rx;exact SeqAt.EqAt.str_int a t' b t
  | str b=>obtain⟨t,rfl⟩:=rx;exact SeqAt.EqAt.str_str a t' b t
  | _=>exact absurd (show false=true from fx) Bool.false_ne_true
 | _=>exact absurd (show false=true from fy) Bool.false_ne_true
noncomputable def eqU(x:V)(u:Value):Bool:=match u with
 | .none=>eqV .non x
 | .bool b=>eqV (.bl b) x
 | .int i _=>eqV (.int i) x
 | .str z _=>eqV (.str z) x
 | _=>false
theorem Si{x y:V}{u:Value}(r:RelV y u)(f:Da y=true):eqU x u=eqV y x:=by
 cases y with
 | non=>cases r;rfl
 | bl b=>cases r;rfl
 | int i=>obtain⟨t,rfl⟩:=r;rfl
 | str z=>obtain⟨t,rfl⟩:=r;rfl
 | _=>exact absurd (show false=true from f) Bool.false_ne_true
theorem r9{x:V}:∀{xs:List V} {us:List Value},Vals xs us->xs.all Da=true->us.any (eqU x)=xs.any fun y=>eqV y x
 | _,_,.nil,_=>rfl
 | y::xs,u::us,.cons r t,f=>by
  rw[List.all_cons,Bool.and_eq_true]at f
  rw[List.any_cons,List.any_cons,Si r f.1,r9 t f.2]
theorem W0{A:Around}{s:Shared}{x:V}{v:Value}(rx:RelV x v)(fx:Da x=true):∀{xs:List V} {us:List Value},Vals xs us->xs.all Da=true->∀u∈us,SeqAt.EqAt A s u v (eqU x u)
 | _,_,.nil,_=>fun u hu=>by cases hu
 | y::xs,u::us,.cons r t,f=>fun u' hu=>by
  rw[List.all_cons,Bool.and_eq_true]at f
  rcases List.mem_cons.mp hu with rfl | hu
  ·rw[Si r f.1];exact Vx r rx f.1 fx
  ·exact W0 rx fx t f.2 u' hu
noncomputable def inV(x:V)(xs:List V):Bool:=xs.any fun y=>eqV y x
noncomputable def rIn(K:PySem.W.Frag)(neg:Bool):R2:=fun x y H Q=>∃p xs,y = .ref p/\(SqL K H p xs\/SqT K H p xs)/\Da x=true/\xs.all Da=true/\Q (.bl (if neg then !inV x xs else inV x xs)) H
theorem Mg:OpR X (compareOp .In) (rIn X.K false):=by
 intro pins s σ H x y v u Q I rx ry h
 obtain⟨p,xs,rfl,hq,fx,fs,q⟩:=h
 cases ry
 rcases hq with hq | hq
 ·obtain⟨its,r,pl,hz⟩:=I.list hq
  refine SeqAt.in_listAt (eqU x) pl.isList (fun w hw=>W0 rx fx r fs w (by simpa using hw)) ⟨.bl _,H,I,rfl,?_⟩
  rw[show its.toArray.any (eqU x)=its.any (eqU x) by simp,r9 r fs]
  exact q
 ·obtain⟨its,r,pl,hz⟩:=I.tuple hq
  refine SeqAt.in_tupleAt (eqU x) pl (fun w hw=>W0 rx fx r fs w (by simpa using hw)) ⟨.bl _,H,I,rfl,?_⟩
  rw[show its.toArray.any (eqU x)=its.any (eqU x) by simp,r9 r fs]
  exact q
theorem El:OpR X (compareOp .NotIn) (rIn X.K true):=by
 intro pins s σ H x y v u Q I rx ry h
 obtain⟨p,xs,rfl,hq,fx,fs,q⟩:=h
 cases ry
 rcases hq with hq | hq
 ·obtain⟨its,r,pl,hz⟩:=I.list hq
  refine SeqAt.notIn_listAt (eqU x) pl.isList (fun w hw=>W0 rx fx r fs w (by simpa using hw)) ⟨.bl _,H,I,rfl,?_⟩
  rw[show its.toArray.any (eqU x)=its.any (eqU x) by simp,r9 r fs]
  exact q
 ·obtain⟨its,r,pl,hz⟩:=I.tuple hq
  refine SeqAt.notIn_tupleAt (eqU x) pl (fun w hw=>W0 rx fx r fs w (by simpa using hw)) ⟨.bl _,H,I,rfl,?_⟩
  rw[show its.toArray.any (eqU x)=its.any (eqU x) by simp,r9 r fs]
  exact q
theorem Ed:G5 X (.builtin "len") (fun xs H Q=>∃p ys,xs = [.ref p]/\(SqL X.K H p ys\/SqT X.K H p ys)/\Q (.int ys.length) H):=by
 intro pins s σ H xs us Q I r h
 obtain⟨p,ys,rfl,hq,q⟩:=h
 obtain⟨u,rfl,rx⟩:=U9 r
 cases rx
 have hn:=Ef
 rcases hq with hq | hq
 ·obtain⟨its,r',pl,hz⟩:=I.list hq
  have hlen:=r'.length
  exact Calls.call_len_list pl.isList (by simp only[List.size_toArray]<;>omega) ⟨.int ys.length,H,I.tok _,⟨s.toks+1,by rw[List.size_toArray,hlen]⟩,q⟩
 ·obtain⟨its,r',pl,hz⟩:=I.tuple hq
  have hlen:=r'.length
  exact len_tuple pl (by simp only[List.size_toArray]<;>omega) ⟨.int ys.length,H,I.tok _,⟨s.toks+1,by rw[List.size_toArray,hlen]⟩,q⟩
theorem Fk:G5 X (.builtin "len") (fun xs H Q=>∃z,xs = [.str z]/\z.length<=sizeLine/\Q (.int z.length) H):=by
 intro pins s σ H xs us Q I r h
 obtain⟨z,rfl,hz,q⟩:=h
 obtain⟨u,rfl,t,rfl⟩:=U9 r
 have hn:=Ef
 exact len_str (by omega) ⟨.int z.length,H,I.tok _,⟨_,rfl⟩,q⟩
theorem Gd:G5 X (.type "list") (fun xs H Q=>∃p ys,xs = [.ref p]/\(SqL X.K H p ys\/SqT X.K H p ys)/\∀l,H l=none->Q (.ref l) (upd H l (.lst ys))):=by
 intro pins s σ H xs us Q I r h
 obtain⟨p,ys,rfl,hq,q⟩:=h
 obtain⟨u,rfl,rx⟩:=U9 r
 cases rx
 have fin:∀(its:List Value),Vals ys its->ys.length<=sizeLine->∀(h':Heap) (c':Nat),(∀b o',s.heap.get? b=some o'->h'.get? b=some o') ->
   h'.get? s.heap.objs.size=some { cls:=.type "list",dict:=none,data:=.seq its.toArray c',slots:=#[] }->EP X pins σ Q (.ref s.heap.objs.size) { s with heap:=h' }:=fun its r' hz h' c' kp e =>
  ⟨.ref s.heap.objs.size,_,I.laid (t':=s.toks) kp (Nat.le_refl _) (show ObjOk X.prog X.w _ h' _ (.lst ys)from⟨hz,its,c',r',e⟩),rfl,q _ (I.hok.fresh (Nat.le_refl _))⟩
 rcases hq with hq | hq
 ·obtain⟨its,r',pl,hz⟩:=I.list hq
  have hlen:=r'.length
  obtain⟨o,ho,hc,n,hd⟩:=pl.isList
  exact call_list_seq p (.inl rfl) ho hc hd (fun h' c' kp e=>fin its r' hz h' c' kp e) (by simp only[List.size_toArray]<;>omega)
 ·obtain⟨its,r',pl,hz⟩:=I.tuple hq
  have hlen:=r'.length
  obtain⟨o,ho,hc,n,hd⟩:=pl
  exact call_list_seq p (.inr rfl) ho hc hd (fun h' c' kp e=>fin its r' hz h' c' kp e) (by simp only[List.size_toArray]<;>omega)
theorem Dd:G5 X (.type "tuple") (fun xs H Q=>∃p ys,xs = [.ref p]/\((SqL X.K H p ys/\∀l,H l=none->Q (.ref l) (upd H l (.tup ys)))\/(SqT X.K H p ys/\Q (.ref p) H))):=by
 intro pins s σ H xs us Q I r h
 obtain⟨p,ys,rfl,h⟩:=h
 obtain⟨u,rfl,rx⟩:=U9 r
 cases rx
 rcases h with⟨hq,q⟩ | ⟨hq,q⟩
 ·obtain⟨its,r',pl,hz⟩:=I.list hq
  have hlen:=r'.length
  refine call_tuple_list pl.isList (fun h' kp=>?_) (by simp only[List.size_toArray]<;>omega)
  have I1:Inv X pins σ H { s with heap:=h' }:=I.kept (t':=s.toks) kp
  have I2:Inv X pins σ (upd H h'.objs.size (.tup ys)) { s with heap:=h'.push { cls:=.type "tuple",data:=.seq its.toArray } } :=
   I1.laid (t':=s.toks) (fun b o e=>Heap.get?_push_of_some _ e) (Nat.le_refl _) (show ObjOk X.prog X.w _ _ _ (.tup ys)from⟨hz,its,r',IsTup.new _ _⟩)
  exact⟨.ref h'.objs.size,_,I2,rfl,q _ (I1.hok.fresh (Nat.le_refl _))⟩
 ·obtain⟨its,r',pl,hz⟩:=I.tuple hq
  exact call_tuple_same pl ⟨.ref p,H,I,rfl,q⟩
noncomputable def tyV(K:PySem.W.Frag)(T:String)(x:V)(H:Hp):Prop:=match x with
 | .str _=>T = "str"
 | .int _=>T = "int"
 | .ref p=>(T = "list"/\∃xs,SqL K H p xs)\/(T = "tuple"/\∃o,K.lookup p=some o/\o.cls = .type "tuple"/\o.dict=none) \/
   (T = "dict"/\((∃kvs,H p=some (.dK kvs))\/∃kvs,H p=some (.dT kvs)))\/(T = "set"/\∃S n,H p=some (.set S n))
 | _=>False
theorem Rr{pins:List (Addr×Obj)}{σ:St}{H:Hp}{s:Shared}{T:String}{x:V}{v:Value}(I:Inv X pins σ H s)(r:RelV x v)(ty:tyV X.K T x H) :
  s.TypeIs v T/\∀a,v = .ref a->∃ob,s.heap.get? a=some ob/\ob.dict=none:=by
 cases x with
 | str z =>
  obtain⟨t,rfl⟩:=r
  cases(show T = "str" from ty)
  exact⟨typeIs_str s z t,fun _ e=>nomatch e⟩
 | int i =>
  obtain⟨t,rfl⟩:=r
  cases(show T = "int" from ty)
  exact⟨typeIs_int s i t,fun _ e=>nomatch e⟩
 | ref p =>
  cases r
  rcases ty with⟨rfl,xs,hq⟩ | ⟨rfl,o,hk,hc,hd⟩ | ⟨rfl,hk⟩ | ⟨rfl,S,n,hk⟩
  ·obtain⟨its,_,pl,_⟩:=I.list hq
   refine⟨pl.isList.typeIs,fun a e=>?_⟩
   cases e
   obtain⟨o,n,e,c,hd,_⟩:=pl
   exact⟨o,e,hd⟩
  ·refine⟨⟨o,I.kIn p o hk,hc⟩,fun a e=>?_⟩
   cases e
   exact⟨o,I.kIn _ o hk,hd⟩
  ·have z:∃o,s.heap.get? p=some o/\o.ExactDict:=by
    rcases hk with⟨kvs,hk⟩ | ⟨kvs,hk⟩
    ·obtain⟨_,_,_,_,o,_,_,e,ex,_⟩:=I.hok p _ hk
     exact⟨o,e,ex⟩
    ·obtain⟨_,_,_,_,o,_,_,e,ex,_⟩:=I.hok p _ hk
     exact⟨o,e,ex⟩
   obtain⟨o,e,ex⟩:=z
   refine⟨⟨o,e,ex.1⟩,fun a e2=>?_⟩
   cases e2
   exact⟨o,e,ex.2.1⟩
  ·obtain⟨o,_,_,_,e,ex,_⟩:=I.hok p _ hk
   refine⟨⟨o,e,ex.1⟩,fun a e2=>?_⟩
   cases e2
   exact⟨o,e,ex.2.1⟩
 | _=>exact False.elim ty
noncomputable def zAm(K:PySem.W.Frag)(T:String)(r:V->List V->Hp->VK->Prop)(to:TE):TE:=fun σ H Q=>to σ H fun x H1=>tyV K T x H1/\r x [] H1 Q
noncomputable def tBM(K:PySem.W.Frag)(T:String)(r:V->List V->Hp->VK->Prop)(to:TE)(t:TA):TE:=fun σ H Q=>to σ H fun x H1=>tyV K T x H1/\t σ H1 fun xs H2=>r x xs H2 Q
variable{o e:Expr}{es:List Expr}{to:TE}{t:TA}{name:Str}{apos cpos:Pos}{T id:String}{r:V->List V->Hp->VK->Prop}
theorem Wc(pa:PlainAttrs T)(slot:Slot T name id)(hty:typeOf (.builtin id)=pure (.type "method_descriptor"))(hm:MtR X id r)(ho:PE X o to)
  (hbase:attributeBase o name X.env (eval o X.env)=eval o X.env:=by rfl) (hline:(apos.endLine == cpos.line)=true:=by rfl):PE X (.Call (.Attribute o name apos) [] [] cpos) (zAm X.K T r to):=by
 intro pins s σ H Q I h
 refine wpAny_Call_method0_late hbase hline (thn (ho pins s σ H _ I h) fun v s1 ⟨x,H1,I1,r1,ty,q1⟩=>?_)
 obtain⟨h1,h2⟩:=Rr I1 r1 ty
 exact⟨T,id,pa,slot,hty,h1,h2,Calls.callWith_builtin rfl (PySem.evalArgs_none (hm pins s1 σ H1 x [] v [] Q I1 r1 .nil q1))⟩
theorem Zg(pa:PlainAttrs T)(slot:Slot T name id)(hty:typeOf (.builtin id)=pure (.type "method_descriptor"))(hm:MtR X id r)(ho:PE X o to)(ha:PA X (e::es) t)
  (hbase:attributeBase o name X.env (eval o X.env)=eval o X.env:=by rfl)
  (hfew:((backTo cpos (starEach (e::es) X.env)).all (fun x=>!x.1) &&(backToKw cpos (keywordEach [] X.env)).all (fun x=>x.1.isSome)
   && decide ((e::es).length +([]:List Keyword).length +(if([]:List Keyword).isEmpty then 0 else 1)<30))=true:=by rfl)
  (hline:(apos.endLine == cpos.line)=true:=by rfl) (hs:starEach (e::es) X.env =(false,eval e X.env)::starEach es X.env:=by rfl) (hplain:(backTo cpos (starEach es X.env)).any (·.1)=false:=by rfl) :
  PE X (.Call (.Attribute o name apos) (e::es) [] cpos) (tBM X.K T r to t):=by
 intro pins s σ H Q I h
 refine wpAny_Call_method_late hbase hfew hline rfl (thn (ho pins s σ H _ I h) fun v s1 ⟨x,H1,I1,r1,ty,q1⟩=>?_)
 obtain⟨h1,h2⟩:=Rr I1 r1 ty
 refine⟨T,id,pa,slot,hty,h1,h2,?_⟩
 have hA:=ha cpos pins s1 σ H1 _ I1 q1
 rw[hs]at hA⊢
 refine Calls.callWith_builtin (by show(false||(backTo cpos (starEach es X.env)).any (·.1))=false;rw[hplain]<;>rfl) (Calls.evalArgs_plain ?_)
 exact thn hA fun us s2 ⟨vs,H2,I2,r2,q2⟩=>hm pins s2 σ H2 x vs v us Q I2 r1 r2 q2
end
noncomputable def MtM(X:Cx)(id:String)(r:V->List V->Hp->VK->Prop):Prop :=
 ∀(pins:List (Addr×Obj)) (s:Shared) (σ:St) (H:Hp) (x:V) (xs:List V) (v:Value) (us:List Value) (Q:VK),Inv X pins σ H s->RelV x v->Vals xs us->r x xs H Q ->
  wpAny (model X.prog X.w) X.A (call (.builtin id) (v::us)) (EP X pins σ Q) X.xe s
theorem Vals.one:∀{x:V} {us:List Value},Vals [x] us->∃u,us = [u]/\RelV x u
 | _,_,.cons r .nil=>⟨_,rfl,r⟩
theorem Vals.two:∀{x y:V} {us:List Value},Vals [x,y] us->∃u v,us = [u,v]/\RelV x u/\RelV y v
 | _,_,_,.cons r (.cons q .nil)=>⟨_,_,rfl,r,q⟩
theorem Vals.zero:∀{us:List Value},Vals [] us->us = []
 | _,.nil=>rfl
theorem Vals.eraseIdx:∀{xs:List V} {us:List Value} (i:Nat),Vals xs us->Vals (xs.eraseIdx i) (us.eraseIdx i)
 | _,_,_,.nil=>.nil
 | _,_,0,.cons _ t=>t
 | _,_,i+1,.cons r t=>.cons r (Vals.eraseIdx i t)
theorem Vals.reverse{xs:List V}{us:List Value}(h:Vals xs us):Vals xs.reverse us.reverse:=by
 induction h with
 | nil=>exact .nil
 | cons r t ih=>rw[List.reverse_cons,List.reverse_cons];exact Vals.append ih (.cons r .nil)
theorem Vals.rep{xs:List V}{us:List Value}(h:Vals xs us):∀k:Nat,Vals (List.replicate k xs).flatten (List.replicate k us).flatten
 | 0=>.nil
 | k+1=>by
  rw[List.replicate_succ,List.replicate_succ,List.flatten_cons,List.flatten_cons]
  exact Vals.append h (Vals.rep h k)
theorem Fo{α:Type}:∀(l:List α) (i:Nat),(l.eraseIdx i).length<=l.length
 | [],_=>Nat.le_refl _
 | _::_,0=>Nat.le_succ _
 | _::r,i+1=>Nat.succ_le_succ (Fo r i)
theorem Eg(its:List Value):∀(k:Nat) (acc:List Value),
  List.foldl (fun x1 x2=>x1++x2) acc.toArray (List.replicate k its.toArray) =(acc ++(List.replicate k its).flatten).toArray
 | 0,acc=>by simp
 | k+1,acc=>by
  have e:acc.toArray++its.toArray =(acc++its).toArray:=by simp
  have e2:(acc++its) ++(List.replicate k its).flatten=acc ++(List.replicate (k+1) its).flatten:=by
   rw[List.replicate_succ,List.flatten_cons,List.append_assoc]
  rw[<-e2,<-Eg its k (acc++its),<-e,List.replicate_succ,List.foldl_cons]
section
variable{X:Cx}{pins:List (Addr×Obj)}{σ:St}{H:Hp}{s:Shared}{l b:Addr}{xs ys zs:List V}
theorem Inv.lset{its its':List Value}{n:Nat}{f:Array Value->Array Value}{t':Nat}(I:Inv X pins σ H s)(hH:H l=some (.lst xs))
  (e:s.heap.get? l=some { cls:=.type "list",data:=.seq its.toArray n }) (hf:f its.toArray=its'.toArray) (hv:Vals ys its') (hz:ys.length<=sizeLine) :
  Inv X pins σ (upd H l (.lst ys)) { s with heap:=s.heap.update l (Obj.mapSeq f),toks:=t' }:=by
 have q:=PySem.IsL.update e f
 rw[hf]at q
 refine I.write (x:=l) (e:=l) (by rw[hH];exact trivial) (.inl rfl) (fun b' u hb hu=>(Heap.get?_update_other s.heap (Obj.mapSeq f) (Ne.symm hb)).trans hu) ⟨_,q⟩ ?_
 exact⟨hz,its',_,hv,q⟩
theorem Inv.lnew{its:List Value}{t':Nat}(I:Inv X pins σ H s)(hv:Vals ys its)(hz:ys.length<=sizeLine) :
  Inv X pins σ (upd H s.heap.objs.size (.lst ys)) { s with heap:=s.heap.push { cls:=.type "list",data:=.seq its.toArray },toks:=t' } :=
 I.laid (fun _ _ q=>Heap.get?_push_of_some _ q) (Nat.le_refl _) ⟨hz,its,0,hv,Heap.get?_push_size _ rfl⟩
theorem Inv.fresh(I:Inv X pins σ H s):H s.heap.objs.size=none:=I.hok.fresh (Nat.le_refl _)
theorem Inv.lstM(I:Inv X pins σ H s)(hH:H l=some (.lst xs)):xs.length<=sizeLine/\∃(its:List Value) (n:Nat),Vals xs its/\xs.length=its.length/\s.heap.get? l=some { cls:=.type "list",data:=.seq its.toArray n }:=by
 obtain⟨z,its,n,r,e⟩:=I.hok l _ hH
 exact⟨z,its,n,r,r.length,e⟩
theorem Rf{n:Nat}(h:n<=sizeLine):Builtin.List.listTooLong n=false:=by
 unfold Builtin.List.listTooLong
 exact decide_eq_false (by omega)
end
section
variable{X:Cx}
noncomputable def No:V->List V->Hp->VK->Prop:=fun x vs H Q=>∃l xs y,x = .ref l/\vs = [y]/\H l=some (.lst xs)/\xs.length<sizeLine/\Q .non (upd H l (.lst (xs ++ [y])))
theorem G8:MtM X "list.append" No:=by
 intro pins s σ H x vs v us Q I rx rv h
 obtain⟨l,xs,y,rfl,rfl,hH,hz,q⟩:=h
 cases rx
 obtain⟨u,rfl,ru⟩:=rv.one
 obtain⟨z,its,n,r,hl,e⟩:=I.lstM hH
 refine call_meets F.slot_list_append ⟨_,e,rfl⟩ F.entry_list_append (F.args_list_append_2 _ _) (PySem.list_append l its.toArray n u (by rw[List.size_toArray];omega)) ⟨e,?_⟩
 refine⟨.non,_,I.lset (its':=its ++ [u]) hH e (by simp) (r.append (.cons ru .nil)) ?_,rfl,q⟩
 rw[List.length_append,List.length_singleton]
 omega
noncomputable def Xs:V->List V->Hp->VK->Prop:=fun x vs H Q=>∃l xs i k y,x = .ref l/\vs = [.int i]/\H l=some (.lst xs)/\-(2^63)<=i/\i<2^63/\seqIndex? i xs.length=some k/\xs[k]?=some y/\Q y (upd H l (.lst (xs.eraseIdx k)))
theorem Po:MtM X "list.pop" Xs:=by
 intro pins s σ H x vs v us Q I rx rv h
 obtain⟨l,xs,i,k,y,rfl,rfl,hH,h1,h2,hk,hy,q⟩:=h
 cases rx
 obtain⟨u,rfl,ru⟩:=rv.one
 obtain⟨t,rfl⟩:=ru
 obtain⟨z,its,n,r,hl,e⟩:=I.lstM hH
 obtain⟨w,hw,rw'⟩:=r.get hy
 refine call_meets F.slot_list_pop ⟨_,e,rfl⟩ F.entry_list_pop (F.args_list_pop_2 _ _)
  (MeetsSeq.list_pop_at l its.toArray n i t k w (fitsIndex_both h1 h2) (by rw[List.size_toArray,<-hl];exact hk) (by rw[<-Array.getElem?_toList];exact hw) (by rw[List.size_toArray];omega)) ⟨e,?_⟩
 refine⟨y,_,I.lset (its':=its.eraseIdx k) hH e ?_ (r.eraseIdx k) ?_,rw',q⟩
 ·show its.toArray.eraseIdxIfInBounds k =(its.eraseIdx k).toArray
  rw[List.eraseIdxIfInBounds_toArray]
 ·have:=Fo xs k
  omega
noncomputable def Py:V->List V->Hp->VK->Prop:=fun x vs H Q=>∃l xs,x = .ref l/\vs = []/\H l=some (.lst xs)/\Q .non (upd H l (.lst xs.reverse))
theorem Ko:MtM X "list.reverse" Py:=by
 intro pins s σ H x vs v us Q I rx rv h
 obtain⟨l,xs,rfl,rfl,hH,q⟩:=h
 cases rx
 have hus:=rv.zero
 subst hus
 obtain⟨z,its,n,r,hl,e⟩:=I.lstM hH
 refine call_meets F.slot_list_reverse ⟨_,e,rfl⟩ F.entry_list_reverse (F.args_list_reverse_1 _) (AutoSeq1.list_reverse_list_0 l its.toArray n (by rw[List.size_toArray];omega)) ⟨e,?_⟩
 refine⟨.non,_,I.lset (its':=its.reverse) hH e (by simp) r.reverse ?_,rfl,q⟩
 rw[List.length_reverse]
 omega
noncomputable def zBp:R2:=fun x y H Q=>∃l b xs zs,x = .ref l/\y = .ref b/\H l=some (.lst xs)/\H b=some (.lst zs)/\xs.length+zs.length<=sizeLine/\∀p,H p=none->Q (.ref p) (upd H p (.lst (xs++zs)))
theorem Se:OpR X (binaryOp .Add) zBp:=by
 intro pins s σ H x y v u Q I rx ry h
 obtain⟨l,b,xs,zs,rfl,rfl,hH,hB,hz,q⟩:=h
 cases rx
 cases ry
 obtain⟨z,its,n,r,hl,e⟩:=I.lstM hH
 obtain⟨z2,its2,n2,r2,hl2,e2⟩:=I.lstM hB
 refine PySem.P.add_list e e2 ?_ (by rw[List.size_toArray,List.size_toArray];omega)
 have ea:its.toArray++its2.toArray =(its++its2).toArray:=by simp
 rw[ea]
 exact⟨.ref _,_,I.lnew (t':=s.toks) (r.append r2) (by rw[List.length_append];omega),rfl,q _ I.fresh⟩
noncomputable def zBt:R2:=fun x y H Q=>∃l k xs,x = .ref l/\y = .int k/\H l=some (.lst xs)/\-(2^63)<=k/\k<2^63/\xs.length*k.toNat<=sizeLine /\
 ∀p,H p=none->Q (.ref p) (upd H p (.lst (List.replicate k.toNat xs).flatten))
theorem To{α:Type}(xs:List α)(k:Nat):(List.replicate k xs).flatten.length=k*xs.length:=by
 induction k with
 | zero=>simp
 | succ k ih=>rw[List.replicate_succ,List.flatten_cons,List.length_append,ih,Nat.succ_mul,Nat.add_comm]
theorem Sc:OpR X (binaryOp .Mult) zBt:=by
 intro pins s σ H x y v u Q I rx ry h
 obtain⟨l,k,xs,rfl,rfl,hH,h1,h2,hz,q⟩:=h
 cases rx
 obtain⟨t,rfl⟩:=ry
 obtain⟨z,its,n,r,hl,e⟩:=I.lstM hH
 have hlen:its.toArray.size*k.toNat<=sizeLine:=by rw[List.size_toArray,<-hl];exact hz
 have hcap:¬its.toArray.size*k.toNat >(2^63-1) / 8:=by
  have:(sizeLine:Nat)<=(2^63-1) / 8:=by decide
  omega
 have hfit:¬(!Builtin.List.listFitsIndex k)=true:=by
  rw[fitsIndex_both h1 h2]
  exact Bool.false_ne_true
 have hlong:¬Builtin.List.listTooLong (its.toArray.size*k.toNat)=true:=by
  rw[Rf hlen]
  exact Bool.false_ne_true
 have hnew:List.foldl (fun x1 x2=>x1++x2) #[] (List.replicate (if its.toArray.isEmpty=true then 0 else k.toNat) its.toArray) =(List.replicate k.toNat its).flatten.toArray:=by
  have f0:∀m:Nat,List.foldl (fun x1 x2=>x1++x2) #[] (List.replicate m its.toArray) =(List.replicate m its).flatten.toArray:=fun m=>by
   have:=Eg its m []
   rw[List.nil_append]at this
   exact this
  rw[f0]
  cases its with
  | nil=>simp
  | cons a r'=>rw[if_neg (by simp)]
 refine wpAny_binaryOp_repeat_ref (T := "list") (U := "int") (by decide) ⟨_,e,rfl⟩ (fun s'=>typeIs_int s' k t) noFill_list_mul F.fills_int_mul F.slot_int_rmul repeat_list F.slot_int_index.lookup
  (call_meets F.slot_int_rmul (typeIs_int s k t) F.entry_int_rmul (F.args_int_rmul_2 _ _) (int___rmul___int_list k t l its.toArray n)
   ⟨e,rfl,⟨_,e,rfl⟩,call_meets F.slot_list_mul ⟨_,e,rfl⟩ F.entry_list_mul (F.args_list_mul_2 _ _) (AutoListH.list___mul___list_int_3 l its.toArray n k t hfit hcap hlong) ⟨e,?_⟩⟩)
 rw[hnew]
 exact⟨.ref _,_,I.lnew (t':=s.toks) (r.rep k.toNat) (by rw[To,Nat.mul_comm];exact hz),rfl,q _ I.fresh⟩
end
section
variable{κ:Type}[DecidableEq κ]
noncomputable def Y1(kvs:List (κ×V))(k:κ):Option V:=(kvs.find? fun kv=>decide (kv.1=k)).map (·.2)
noncomputable def Mw(kvs:List (κ×V))(k:κ)(v:V):List (κ×V) :=
 if(kvs.any fun kv=>decide (kv.1=k))=true then kvs.map (fun kv=>if kv.1=k then(kv.1,v)else kv)else kvs ++ [(k,v)]
theorem J6{p:κ×V}{r:List (κ×V)}{k:κ}(e:p.1=k):Y1 (p::r) k=some p.2:=by simp[Y1,List.find?_cons,e]
theorem J2{p:κ×V}{r:List (κ×V)}{k:κ}(e:¬p.1=k):Y1 (p::r) k=Y1 r k:=by simp[Y1,List.find?_cons,e]
theorem Cq(k:κ):∀kvs:List (κ×V),(kvs.any fun kv=>decide (kv.1=k)) =(Y1 kvs k).isSome
 | []=>rfl
 | p::r=>by
  rw[List.any_cons]
  by_cases e:p.1=k
  ·simp only[J6 e,decide_eq_true e,Bool.true_or,Option.isSome_some]
  ·rw[J2 e,decide_eq_false e,Bool.false_or];exact Cq k r
theorem Iv(k j:κ)(y:V):∀kvs:List (κ×V),Y1 (kvs.map fun kv=>if kv.1=k then(kv.1,y)else kv) j =(Y1 kvs j).map fun x=>if j=k then y else x
 | []=>rfl
 | p::r=>by
  have ih:=Iv k j y r
  rw[List.map_cons]
  by_cases h:p.1=k
  ·rw[if_pos h]
   by_cases e:p.1=j
   ·rw[J6 (p:=(p.1,y)) e,J6 e,Option.map_some,if_pos (e.symm.trans h)]
   ·rw[J2 (p:=(p.1,y)) e,J2 e,ih]
  ·rw[if_neg h]
   by_cases e:p.1=j
   ·rw[J6 (p:=p) e,J6 e,Option.map_some,if_neg (fun z=>h (e.trans z))]
   ·rw[J2 (p:=p) e,J2 e,ih]
theorem Eb(k j:κ)(y:V):∀kvs:List (κ×V),Y1 kvs k=none->Y1 (kvs ++ [(k,y)]) j=if j=k then some y else Y1 kvs j
 | [],_=>by
  by_cases e:k=j
  ·rw[if_pos e.symm];exact J6 (p:=(k,y)) e
  ·rw[if_neg (fun z=>e z.symm)];exact J2 (p:=(k,y)) e
 | p::r,hn=>by
  rw[List.cons_append]
  have hk:¬p.1=k:=fun z=>by rw[J6 z]at hn;cases hn
  rw[J2 hk]at hn
  have ih:=Eb k j y r hn
  by_cases e:p.1=j
  ·rw[J6 e,J6 e,if_neg (fun z=>hk (e.trans z))]
  ·rw[J2 e,J2 e,ih]
theorem Pe(kvs:List (κ×V))(k j:κ)(y:V):Y1 (Mw kvs k y) j=if j=k then some y else Y1 kvs j:=by
 unfold Mw
 by_cases a:(kvs.any fun kv=>decide (kv.1=k))=true
 ·rw[if_pos a,Iv]
  rw[Cq]at a
  by_cases e:j=k
  ·obtain⟨x,hx⟩:=Option.isSome_iff_exists.mp a
   rw[if_pos e,e,hx,Option.map_some,if_pos rfl]
  ·rw[if_neg e]
   cases Y1 kvs j with
   | none=>rfl
   | some x=>rw[Option.map_some,if_neg e]
 ·rw[if_neg a]
  refine Eb k j y kvs ?_
  rw[Cq]at a
  cases q:Y1 kvs k with
  | none=>rfl
  | some x=>rw[q]at a;exact(a rfl).elim
theorem U7(kvs:List (κ×V))(k:κ)(v:V):(Mw kvs k v).length<=kvs.length+1:=by
 unfold Mw
 split
 ·rw[List.length_map];omega
 ·rw[List.length_append,List.length_cons,List.length_nil];omega
theorem KV.val{kvs:List (κ×V)}{vs:List (κ×Value)}(r:KV kvs vs)(k:κ):RelO (Y1 kvs k) (valueAt vs k):=by
 unfold KV at r
 induction r with
 | nil=>exact True.intro
 | @cons p q ps qs h t ih =>
  obtain⟨h1,h2⟩:=h
  by_cases e:p.1=k
  ·have e':q.1=k:=h1.symm.trans e
   have b:valueAt (q::qs) k=some q.2:=by simp[valueAt,List.find?_cons,e']
   rw[J6 e,b];exact h2
  ·have e':¬q.1=k:=fun z=>e (h1.trans z)
   have b:valueAt (q::qs) k=valueAt qs k:=by simp[valueAt,List.find?_cons,e']
   rw[J2 e,b];exact ih
theorem KV.any{kvs:List (κ×V)}{vs:List (κ×Value)}(r:KV kvs vs)(k:κ):(kvs.any fun kv=>decide (kv.1=k))=vs.any fun kv=>decide (kv.1=k):=by
 unfold KV at r
 induction r with
 | nil=>rfl
 | cons h t ih=>rw[List.any_cons,List.any_cons,ih,h.1]
theorem KV.repl{kvs:List (κ×V)}{vs:List (κ×Value)}(r:KV kvs vs)(k:κ){y:V}{u:Value}(ry:RelV y u) :
  KV (kvs.map fun kv=>if kv.1=k then(kv.1,y)else kv) (vs.map fun kv=>if kv.1=k then(kv.1,u)else kv):=by
 unfold KV at r⊢
 induction r with
 | nil=>exact .nil
 | @cons p q ps qs h t ih =>
  rw[List.map_cons,List.map_cons]
  refine .cons ?_ ih
  obtain⟨h1,h2⟩:=h
  by_cases e:p.1=k
  ·rw[if_pos e,if_pos (h1.symm.trans e)];exact⟨h1,ry⟩
  ·rw[if_neg e,if_neg (fun z=>e (h1.trans z))];exact⟨h1,h2⟩
theorem KV.put{kvs:List (κ×V)}{vs:List (κ×Value)}(r:KV kvs vs)(k:κ){y:V}{u:Value}(ry:RelV y u):KV (Mw kvs k y) (stored vs k u):=by
 unfold Mw stored
 rw[r.any k]
 by_cases e:(vs.any fun kv=>decide (kv.1=k))=true
 ·rw[if_pos e,if_pos e];exact r.repl k ry
 ·rw[if_neg e,if_neg e];exact Paired.snoc r ⟨rfl,ry⟩
theorem KV.length{kvs:List (κ×V)}{vs:List (κ×Value)}(r:KV kvs vs):kvs.length=vs.length:=Paired.length r
end
theorem Ly{P:Program}{w:World}{k:Key}{u:Value}(r:RelV (kV k) u):(D8 P w).is k u=true:=by
 cases k with
 | inl i=>obtain⟨t,e⟩:=(show ∃t,u=Value.int i t from r);subst e;exact Hb P w i t
 | inr x=>obtain⟨t,e⟩:=(show ∃t,u=Value.str x t from r);subst e;exact Hj P w x t
theorem Dv{P:Program}{w:World}:∀{ks:List Key} {us:List Value},Vals (ks.map kV) us->ItemsAre (D8 P w) ks us
 | [],_,r=>by rw[List.map_nil]at r;cases r;exact .nil
 | k::ks,_,r=>by
  rw[List.map_cons]at r
  cases r with
  | cons h t=>exact .cons (Ly h) (Dv t)
noncomputable abbrev KT(H:Hp):List (List Key×V)->List (List Key×Addr×Value)->Prop:=Paired fun p q=>p.1=q.1/\H q.2.1=some (.tup (p.1.map kV))/\RelV p.2 q.2.2
theorem KT.val{H:Hp}{kvs:List (List Key×V)}{xs:List (List Key×Addr×Value)}(r:KT H kvs xs)(k:List Key):RelO (Y1 kvs k) ((atKey xs k).map (·.2)):=by
 induction r with
 | nil=>exact True.intro
 | @cons p q ps qs h t ih =>
  obtain⟨h1,_,h2⟩:=h
  by_cases e:p.1=k
  ·have e':q.1=k:=h1.symm.trans e
   have b:atKey (q::qs) k=some q.2:=by simp[atKey,List.find?_cons,e']
   rw[J6 e,b];exact h2
  ·have e':¬q.1=k:=fun z=>e (h1.trans z)
   have b:atKey (q::qs) k=atKey qs k:=by simp[atKey,List.find?_cons,e']
   rw[J2 e,b];exact ih
section
variable{P:Program}{w:World}{H:Hp}{h:Heap}{a:Addr}
theorem Xu{u:HO}(ok:HOk P w H h)(e:Rd H a u):ObjOk P w H h a u:=e.ok ok
theorem Ta{kvs:List (Key×V)}(ok:HOk P w H h)(e:Rd H a (.dK kvs)):kvs.length<=sizeLine/\(a == sysModules)=false/\∃vs,KV kvs vs/\h.DictOf (D8 P w) a vs :=
 show ObjOk P w H h a (.dK kvs)from Xu ok e
theorem Zc{kvs:List (Key×V)}(ok:HOk P w H h)(e:H a=some (.dK kvs)):kvs.length<=sizeLine/\(a == sysModules)=false/\∃vs,KV kvs vs/\h.DictOf (D8 P w) a vs:=Ta ok (.inl e)
theorem Bg{ks:List Key}(ok:HOk P w H h)(e:H a=some (.tup (ks.map kV))):(tupleKind (D8 P w)).is h ks a:=by
 obtain⟨_,its,r,o,h1,h2,n,h3⟩:=(show ObjOk P w H h a (.tup (ks.map kV))from ok a _ e)
 exact⟨o,its.toArray,n,h1,h2,h3,by simpa using Dv r⟩
theorem Yk{kvs:List (List Key×V)}(ok:HOk P w H h)(e:Rd H a (.dT kvs)):kvs.length<=sizeLine/\(a == sysModules)=false /\
  ∃xs,KT H kvs xs/\h.DictOfH (tupleKind (D8 P w)) a xs:=by
 obtain⟨z,y,xs,r,o,es,ep,h1,h2,h3,h4,h5⟩:=(show ObjOk P w H h a (.dT kvs)from Xu ok e)
 refine⟨z,y,xs,r,o,es,ep,h1,h2,h3,h4,fun x hx=>?_,h5⟩
 have all:∀{l:List (List Key×V)} {m:List (List Key×Addr×Value)},KT H l m->∀x∈m,(tupleKind (D8 P w)).is h x.1 x.2.1:=by
  intro l m q
  induction q with
  | nil=>intro x hx;exact nomatch hx
  | @cons p q ps qs hq t ih =>
   intro x hx
   rcases List.mem_cons.mp hx with e | hx
   ·subst e
    exact Bg ok (by rw[<-hq.1];exact hq.2.1)
   ·exact ih x hx
 exact all r x hx
end
noncomputable def DGet(H:Hp)(a:Addr)(y:V)(r:Option V):Prop :=
 (∃kvs k,Rd H a (.dK kvs)/\y=kV k/\r=Y1 kvs k)\/∃kvs k b,Rd H a (.dT kvs)/\y = .ref b/\H b=some (.tup (k.map kV))/\r=Y1 kvs k
theorem DGet.k{H:Hp}{a:Addr}{kvs:List (Key×V)}{k:Key}(e:H a=some (.dK kvs)):DGet H a (kV k) (Y1 kvs k):=.inl ⟨kvs,k,.inl e,rfl,rfl⟩
section
variable{X:Cx}{pins:List (Addr×Obj)}{σ:St}{H:Hp}{s:Shared}{a:Addr}{y v:V}{u r:Value}{o:Option V}{A:Around}{E:Value->Shared->Prop}
theorem Inv.big(I:Inv X pins σ H s):sysModules<s.heap.objs.size:=by
 have h:mainGlobals<s.heap.objs.size:=(I.mod.glob.keeps I.bk).lt
 exact Nat.lt_trans (by decide) h
theorem Lg{Q:Value->Shared->Prop}(hu:A.units+1<cLine)(I:Inv X pins σ H s)(g:DGet H a y (some v))(ry:RelV y u)(h:∀w' s',Inv X pins σ H s'->RelV v w'->Q w' s') :
  wpAny (model X.prog X.w) A (getItem (.ref a) u) Q E s:=by
 rcases g with⟨kvs,k,e,ey,l⟩ | ⟨kvs,k,b,e,ey,eb,l⟩
 ·subst ey
  obtain⟨z,hd,vs,rel,dd⟩:=Ta I.hok e
  obtain⟨w',hw,rw'⟩:=RelO.some_of (v:=v) (o:=valueAt vs k) (by rw[l];exact rel.val k)
  exact wpAny_getItem_of (Ly ry) dd.mapOf hw (h w' _ (I.tok _) rw')
 ·subst ey
  cases(show u=Value.ref b from ry)
  obtain⟨z,hd,xs,rel,dd⟩:=Yk I.hok e
  obtain⟨w',hw,rw'⟩:=RelO.some_of (v:=v) (o:=(atKey xs k).map (·.2)) (by rw[l];exact rel.val k)
  obtain⟨p,hp,hp2⟩:=Option.map_eq_some_iff.mp hw
  refine wpAny_getItem_heap (tupleKind_room_in1 hu) (Bg I.hok eb) dd hp ?_
  rw[hp2]
  exact h w' _ (I.tok _) rw'
theorem Tk{h':Heap}{t':Nat}{ob:HO}(I:Inv X pins σ H s)(mu:Mut (H a))(hs:Heap.SameBut a s.heap h')(he:∃q,h'.get? a=some q)(new:ObjOk X.prog X.w (upd H a ob) h' a ob) :
  Inv X pins σ (upd H a ob) { s with heap:=h',toks:=t' } :=
 I.write (x:=a) (e:=a) mu (.inl rfl) (fun b q hb z=>(hs.2 b hb).trans z) he new
theorem Wj{P:Program}{w:World}{H':Hp}{h':Heap}{kvs:List (Key×V)}{vs:List (Key×Value)}(z:kvs.length<=sizeLine)(hd:(a == sysModules)=false)(rel:KV kvs vs)(dd:h'.DictOf (D8 P w) a vs) :
  ObjOk P w H' h' a (.dK kvs):=⟨z,hd,vs,rel,dd⟩
end
noncomputable def zAp(i:Expr):Prop:=∀ov iv,subscripted i false ov iv=operate [ov,iv] (getItem ov iv)
theorem Uz{prog:Program}{w:World}{A:Around}{E:Value->Shared->Prop}{s:Shared}{env:Env}{value slice:Expr}{pos:Pos}{T id:String}{Q:Value->Shared->Prop}
  (hl:typeLookup (.type T) "__getitem__" = pure (some (.builtin id))) (hs:zAp slice)
  (h:wpAny (model prog w) A (eval value env) (fun o s₁=>wpAny (model prog w) A (eval slice env) (fun i s₂=>s₂.TypeIs o T/\wpAny (model prog w) A (getItem o i) Q E s₂) E s₁) E s) :
  wpAny (model prog w) A (eval (.Subscript value slice pos) env) Q E s:=by
 refine Subscript_ (wpAny_mono h (fun o s₁ h₁=>wpAny_mono h₁ (fun i s₂ h₂=>?_) fun _ _ x=>x) fun _ _ x=>x)
 obtain⟨hT,h₂⟩:=h₂
 unfold subscriptTail
 refine wpAny_bind ?_
 rw[getitemInPython_of_ne hT.not_modules]
 refine wpAny_bind (wpAny_specialOf hT hl ?_)
 have fin:wpAny (model prog w) A (subscripted slice false o i) (fun r s₃=>wpAny (model prog w) A (letTemporaryGo value o r >>= fun _=>pure r) Q E s₃) E s₂:=by
  rw[hs o i]
  exact wpAny_operating (wpAny_mono h₂ (fun r s₃ h₃=>wpAny_bind (wpAny_letTemporaryGo (wpAny_pure h₃))) fun _ _ x=>x)
 first
  | exact wpAny_pure (wpAny_bind fin)
  | exact wpAny_bind (wpAny_pure (wpAny_bind fin))
  | exact wpAny_bind fin
theorem Hn{X:Cx}{pins:List (Addr×Obj)}{σ:St}{H:Hp}{s:Shared}{a:Addr}{y:V}{o:Option V}(I:Inv X pins σ H s)(g:DGet H a y o):s.TypeIs (.ref a) "dict":=by
 rcases g with⟨kvs,k,e,_,_⟩ | ⟨kvs,k,b,e,_,_,_⟩
 ·obtain⟨_,_,vs,_,dd⟩:=Ta I.hok e
  exact dd.typeIs
 ·obtain⟨_,_,xs,_,dd⟩:=Yk I.hok e
  exact dd.typeIs
noncomputable def Zh(td ty:TE):TE:=fun σ H Q=>td σ H fun x H1=>ty σ H1 fun y H2=>∃a v,x = .ref a/\DGet H2 a y (some v)/\Q v H2
section
variable{X:Cx}{o i e value:Expr}{pos pos' tpos:Pos}{td ty tv:TE}
theorem V1(hu:X.A.units+1<cLine)(ho:PE X o td)(hi:PE X i ty)(hs:zAp i):PE X (.Subscript o i pos) (Zh td ty):=by
 intro pins s σ H Q I h
 refine Uz PySem.F.slot_dict_getitem.lookup hs (thn (ho pins s σ H _ I h) fun u s1 ⟨x,H1,I1,rx,q1⟩=>thn (hi pins s1 σ H1 _ I1 q1) fun iv s2 ⟨y,H2,I2,ry,a,v,ex,g,q2⟩=>?_)
 subst ex
 obtain rfl:u=Value.ref a:=rx
 exact⟨Hn I2 g,Lg hu I2 g ry fun w' s3 I3 rw'=>⟨v,H2,I3,rw',q2⟩⟩
end
theorem Qg{P:Program}{w:World}{H:Hp}(h:Heap)(hb:sysModules<h.objs.size):ObjOk P w H (h.push { cls:=.type "dict",data:=.dict #[] }) h.objs.size (.dK []) :=
 ⟨Nat.zero_le _,beq_eq_false_iff_ne.mpr (Ne.symm (Nat.ne_of_lt hb)),[],.nil,Heap.DictOf.new h⟩
end L2
namespace Att
open PySem PySem.W PySem.Calls PyProof.Rows
theorem u5{P:Params}{h:Heap}:∀(ns:List Int) (vs:List Value),WellAll P h vs (ns.map WData.int)->IntsAre vs ns:=by
 intro ns
 induction ns with
 | nil =>
  intro vs w
  rw[List.map_nil]at w
  cases w
  exact .nil
 | cons n ns ih =>
  intro vs w
  rw[List.map_cons]at w
  cases w with
  | cons a b =>
   cases a
   exact .cons _ _ (ih _ b)
theorem Nk{l:OpenLaw}{n:Nat}(hn:l.most=some n){P:Params}{h:Heap}{args:List WData}{vals:List Value}
  (hpre:l.row.toRowW.claim.pre args=true) (hwl:WellAll P h vals args) :
  ∃a vs ns,vals = [Value.ref a]/\args = [WData.list (ns.map WData.int)]/\h.get? a=some { cls:=.type "list",data:=.seq vs.toArray }/\IntsAre vs ns/\ns.length<=n:=by
 have hsh:WShape.hasAll [] args [.list .int]=true:=(pre_splitW hpre).1
 have hc:l.pre.holds [] { args:=args }=true:=(pre_splitW hpre).2
 obtain⟨d,r,rfl,h1,h2⟩:=hasAllW_cons hsh
 obtain rfl:=hasAllW_nil h2
 obtain⟨xs,rfl,h3⟩:=hasW_list h1
 obtain⟨ns,rfl⟩:=items_int h3
 have hlen:ns.length<=n:=by
  unfold OpenLaw.pre at hc
  have h4:(WTm.not (.lt (.lit (.int (n:Int))) (.len (.arg 0)))).holds [] { args:=[.list (ns.map .int)] }=true:=by
   have h4:=(holds_andW hc).1
   rw[hn]at h4
   exact h4
  have h5:=condW_of h4 (w_not (w_lt w_lit (w_len_list (w_arg rfl))))
  rw[List.length_map]at h5
  refine Nat.le_of_not_lt fun q=>?_
  have q':(n:Int) <((ns.length:Nat):Int):=by omega
  first
   | (rw[decide_eq_true q']at h5;exact absurd h5 (by decide))
   | (simp at h5;omega)
 cases hwl with
 | cons w1 w2 =>
  cases w2
  cases w1 with
  | list ho hall=>exact⟨_,_,ns,rfl,rfl,ho,u5 ns _ hall,hlen⟩
theorem Kz(l:OpenLaw)(args:List WData):l.row.toRowW.claim.post args (.bool true) args=true :=
 postW_of (r:=l.row.toRowW) (X:=(true == true))
  (show WShape.has [] (.bool true) .bool=true by first | rfl | decide | simp[WShape.has,WShape.arms,WShape.armsAll])
  (show(WTm.eq .res (.lit (.bool true))).value [] { args:=args,res:=some (.bool true),after:=args }=some (.bool (true == true))from w_eq_bool (w_res rfl) w_lit) rfl
theorem attach_call{l:OpenLaw}{n:Nat}{q:Program}{loose:List Str}{XP:(Str->Option Value)->Heap->Prop}{YP:World->Heap->Prop}{d:DefRec}
  (hn:l.most=some n) (hdf:d.params.defaults = [])
  (call:∀(w:World) (s₀ s₁:Shared) (mg mb:Str->Option Value) (fa:Addr) (o:Obj) (pm cd doc:Value) (a:Addr) (vs:List Value) (ns:List Int),
   Ground q loose [] XP w s₀ mg mb s₁.heap->YP w s₁.heap ->
   s₁.heap.get? fa=some o->o.data = .func (docDef d.name d.params d.body d.scope pm cd doc)->s₁.heap.CodeRec cd d.name->mg d.name=some (.ref fa) ->
   s₁.heap.get? a=some { cls:=.type "list",data:=.seq vs.toArray }->IntsAre vs ns->ns.length<=n->s₁.gens = #[] ->
   codeAny (model l.prog w) callerA (.call (.ref fa) ⟨[.ref a],[]⟩) (fun r s'=>r = .ok (.ret (.bool true))/\OldK s₁.heap s'.heap/\s'.os=s₁.os/\AllBare s'.gens) s₁) :
  WalkO q loose XP YP l.row.toRowW d [] (fun f vs=>PySem.call f vs):=by
 intro w s₀ s₁ mg mb G Y fa o pm cd doc dV kV ho hd hcd hD hmg hg args vals as hpre hlay hrd hwl hlo
 obtain rfl:dV = .none:=Dflts.none hD hdf
 obtain rfl:kV = .none:=Dflts.noKw hD
 obtain⟨a,vs,ns,rfl,rfl,hobj,hints,hlen⟩:=Nk hn hpre hwl
 refine enter_call (codeAny_mono (call w s₀ s₁ mg mb fa o pm cd doc a vs ns G Y ho (fd_plain hd) hcd hmg hobj hints hlen hg) fun r s' hq=>?_)
 obtain⟨rfl,h2,h3,h4⟩:=hq
 exact⟨.inl ⟨.bool true,.bool true,[],rfl,fun _=>rfl,.bool true,Kz l _,fun _=>⟨List.Pairwise.nil,fun _ hm=>(nomatch hm)⟩⟩,h2,h3,h4⟩
end Att
namespace L2
open PySem PySem.Spec PyProof.Rows
theorem Fr:∀{vs:List Value} {ns:List Int},IntsAre vs ns->Vals (ns.map V.int) vs
 | _,_,.nil=>.nil
 | _,_,.cons n t h=>.cons ⟨t,rfl⟩ (Fr h)
noncomputable def Zq(H:Hp):Prop:=∀b,H b=none\/∃o xs,H b=some (.frz o (.lst xs))
theorem Qy{P:Program}{w:World}{K:PySem.W.Frag}{mg mb:Str->Option Value}{CX:CXT}{k:Nat}{fa a:Addr}{fd:FuncData}{x:Str}{sp:Sp}{s₁:Shared}{vs:List Value}{ns:List Int}
  (KX:K.In s₁.heap) (hns:s₁.heap.Ns mainGlobals mg) (hb:s₁.heap.Ns builtinsNs mb) (hbb:∀x:Str,x≠ "__name__"->mb x=bootBuiltins x) (hlim:s₁.heap.NoLimit) (hg:s₁.gens = #[])
  (ha:s₁.heap.get? a=some { cls:=.type "list",data:=.seq vs.toArray }) (hi:IntsAre vs ns) (hl:ns.length<=sizeLine) (hr:Room k callerA)
  (F:∀base:Heap,K.In base->base.Ns mainGlobals mg->FnOk P w K mg base CX k fa fd [x] sp) (hbind:∀(s:Shared) (u:Value),BindsTo s fd ⟨[u],[]⟩ [(x,u)])
  (hsp:∀H:Hp,Zq H->SqL K H a (ns.map V.int)->sp [.ref a] H (fun v _=>v = .bl true) fun _ _ _=>False)
  (hCX:∀H e s',CX [] H s₁ (fun _ _ _=>False) e s'->False) :
  codeAny (model P w) callerA (.call (.ref fa) ⟨[.ref a],[]⟩) (fun r s'=>r = .ok (.ret (.bool true))/\OldK s₁.heap s'.heap/\s'.os=s₁.os/\AllBare s'.gens) s₁:=by
 have rv:=Fr hi
 have lenV:=hi.length
 have core:∀H:Hp,Zq H->SqL K H a (ns.map V.int)->HOk P w H s₁.heap->(∀b,H b≠none->b=a)->(H a≠none->K.lookup a=none) ->
   codeAny (model P w) callerA (.call (.ref fa) ⟨[.ref a],[]⟩) (fun r s'=>r = .ok (.ret (.bool true))/\OldK s₁.heap s'.heap/\s'.os=s₁.os/\AllBare s'.gens) s₁:=by
  intro H hO hS hok hA hK
  have base_of:∀{b:Addr} {o:Obj},s₁.heap.get? b=some o->H b=none->(Qz s₁.heap H).get? b=some o:=fun e n=>Qb e n
  have noA:∀{b:Addr} {o:Obj} {es:Array DictEntry} {ep:Nat},s₁.heap.get? b=some o->o.data = .dict es ep->H b=none:=fun{b o es ep} e d=>by
   cases q:H b with
   | none=>rfl
   | some u =>
    have e':b=a:=hA b (by rw[q];simp)
    subst e'
    rw[ha]at e;cases e
    have d':Data.seq vs.toArray _=Data.dict es ep:=d
    cases d'
  have nsK:∀{b:Addr} {m:Str->Option Value},s₁.heap.Ns b m->(Qz s₁.heap H).Ns b m:=fun{b m} ⟨o,es,ep,e,d,r⟩=>⟨o,es,ep,base_of e (noA e d),d,r⟩
  have hKb:K.In (Qz s₁.heap H):=fun b o e=>base_of (KX b o e) (by
   cases q:H b with
   | none=>rfl
   | some u =>
    have e':b=a:=hA b (by rw[q];simp)
    subst e'
    rw[hK (by rw[q];simp)]at e;cases e)
  have hM:Mod K mg (Qz s₁.heap H):=⟨hKb,nsK hns,⟨mb,nsK hb,hbb⟩,let⟨mc,h1,h2⟩:=hlim;⟨mc,nsK h1,h2⟩⟩
  have e0:Env0 P w K mg (Qz s₁.heap H) callerA [] s₁ H:=⟨rfl,hM,fun b o e=>Vc e,Nat.le_of_eq (Nc _ _),trivial,fun b hb=>absurd (show b∈([]:List Addr)from hb) (by simp),hok,.of_eq hg⟩
  refine codeAny_mono ((F _ hKb (nsK hns)).run callerA [] s₁ H ⟨[.ref a],[]⟩ [.ref a] [.ref a] _ _ hr e0 (hbind s₁ (.ref a)) (.cons rfl .nil) (hsp H hO hS)) fun r s' h=>?_
  cases r with
  | error e=>exact(hCX H e s' h).elim
  | ok fl =>
   cases fl with
   | next=>exact False.elim h
   | brk=>exact False.elim h
   | cont=>exact False.elim h
   | ret u =>
    obtain⟨v,H',os,bare,un,hok',r',q⟩:=h
    have q':v = .bl true:=q
    subst q'
    obtain rfl:u=Value.bool true:=r'
    refine⟨rfl,OldK.of_keep fun b o e=>?_,os,bare⟩
    cases q:H b with
    | none=>exact un.keep b o e q (by intro z;exact absurd (show b∈([]:List Addr)from z) (by simp)) (by simp)
    | some u =>
     rcases hO b with z | ⟨ob,xs,z⟩
     ·rw[q]at z;cases z
     ·have z2:=un.frzs b ob _ z
      obtain⟨e1,_⟩:=hok b _ z
      obtain⟨e2,_⟩:=hok' b _ z2
      rw[e]at e1;cases e1
      exact e2
 cases hk:K.lookup a with
 | some o =>
  have e:=KX a o hk
  rw[ha]at e
  cases e
  refine core (fun _=>none) (fun _=>.inl rfl) (.inr ⟨_,vs.toArray,_,hk,rfl,rfl,rfl,by rw[List.size_toArray,lenV];exact hl,by simpa using rv⟩) (fun b u z=>by have z':(none:Option HO)=some u:=z;cases z') (fun b z=>absurd rfl z) fun z=>absurd rfl z
 | none =>
  refine core (fun b=>if b=a then some (.frz { cls:=.type "list",data:=.seq vs.toArray } (.lst (ns.map V.int)))else none) (fun b=>?_) (.inl (.inr ⟨{ cls:=.type "list",data:=.seq vs.toArray },if_pos rfl⟩)) (fun b u z=>?_) (fun b z=>?_) fun _=>hk
  ·by_cases hb:b=a
   ·exact .inr ⟨_,_,if_pos hb⟩
   ·exact .inl (if_neg hb)
  ·by_cases hb:b=a
   ·have z':=(if_pos hb).symm.trans z
    cases z'
    subst hb
    exact⟨ha,by rw[List.length_map];exact hl,vs,_,rv,ha⟩
   ·have z':=(if_neg hb).symm.trans z
    cases z'
  ·by_cases hb:b=a
   ·exact hb
   ·exact absurd (if_neg hb) z
theorem walk_of{l:PySem.W.OpenLaw}{n k:Nat}{q:Program}{loose:List Str}{XP:(Str->Option Value)->Heap->Prop}{YP:World->Heap->Prop}{d:DefRec}{K:Params->PySem.W.Frag}{CX:World->CXT}{sp:World->Sp}{x:Str}
  (hn:l.most=some n) (hn2:n<=sizeLine) (hdf:d.params.defaults = []) (hr:Room k callerA)
  (hY:∀(w:World) (h:Heap),YP w h->(K w.params).In h)
  (F:∀(w:World) (mg:Str->Option Value) (fa:Addr) (h:Heap),(K w.params).In h->h.Ns mainGlobals mg->mg d.name=some (.ref fa) ->
   ∃fd:FuncData,(∀(s:Shared) (u:Value),BindsTo s fd ⟨[u],[]⟩ [(x,u)]) /\
    ∀base:Heap,(K w.params).In base->base.Ns mainGlobals mg->FnOk l.prog w (K w.params) mg base (CX w) k fa fd [x] (sp w))
  (hsp:∀(w:World) (H:Hp) (a:Addr) (ns:List Int),ns.length<=n->Zq H->SqL (K w.params) H a (ns.map V.int)->sp w [.ref a] H (fun v _=>v = .bl true) fun _ _ _=>False)
  (hCX:∀(w:World) (H:Hp) (s:Shared) (e:Value) (s':Shared),CX w [] H s (fun _ _ _=>False) e s'->False) :
  PySem.W.WalkO q loose XP YP l.row.toRowW d [] (fun f vs=>PySem.call f vs):=by
 refine Att.attach_call hn hdf fun w s₀ s₁ mg mb fa o pm cd doc a vs ns G Y ho hd hcd hmg hobj hints hlen hg=>?_
 have KX:=hY w _ Y
 obtain⟨fd,hb,hF⟩:=F w mg fa _ KX G.T.g hmg
 exact Qy KX G.T.g G.T.b G.T.builtins G.T.nolimit hg hobj hints (Nat.le_trans hlen hn2) hr hF hb (fun H hO hS=>hsp w H a ns hlen hO hS) fun H e s'=>hCX w H s₁ e s'
noncomputable def Y2(s:Stmt)(j:Nat):Stmt:=match s with
 | .ClassDef _ _ _ body _ _ _ _ _ _ _=>body.getD j (.Pass ⟨0,0,0,0⟩)
 | _=>.Pass ⟨0,0,0,0⟩
noncomputable def O3(s:Stmt):Arguments:=match s with
 | .FunctionDef _ a _ _ _ _ _ _ _ _=>a
 | _=>{ posonlyargs:=[],args:=[],vararg:=none,kwonlyargs:=[],kw_defaults:=[],kwarg:=none,defaults:=[] }
noncomputable def M5(s:Stmt):List Stmt:=match s with
 | .FunctionDef _ _ b _ _ _ _ _ _ _=>b
 | _=>[]
noncomputable def B7(s:Stmt):Scope:=match s with
 | .FunctionDef _ _ _ _ _ _ sc _ _ _=>sc
 | _=>{ kind:=.function,names:=[],isGenerator:=false,isCoroutine:=false }
noncomputable abbrev CX0:CXT:=fun _ _ _ _ _ _=>False
noncomputable abbrev E0:XK:=fun _ _ _=>False
theorem Y7{X:Cx}:An CX0 X E0:=fun _ _ _ _ _ _ _ h=>h.elim
structure Fun(K:PySem.W.Frag)(x qual:Str)(st:Stmt)(f:Addr)(fd:FuncData):Prop where
 ex:∃(oc:Value) (od:Option Addr) (kV doc pm:Value) (an:Option Addr) (cdv ct:Value) (osl:Array (Option Value)),
  fd=PySem.W.fnOf x qual (O3 st) (M5 st) (B7 st) .none kV doc pm an cdv ct/\K.lookup f=some ⟨oc,od,.func fd,osl⟩/\PySem.W.codeIn K cdv qual=true
 kp:PySem.W.keepIn K (.ref f)=true
section
variable{P:Program}{w:World}{K:PySem.W.Frag}{mg:Str->Option Value}{base:Heap}
theorem Fun.ok{x qual:Str}{st:Stmt}{f:Addr}{fd:FuncData}{N ps:List Str}{k:Nat}{sp:Sp}(F:Fun K x qual st f fd)(S:FnScope N ps (B7 st))(len:∀vs H Q E,sp vs H Q E->vs.length=ps.length)
  (hbody:∀(cdv:Value) (A:Around) (outer:List Env) (s:Shared) (H:Hp) (vs:List V) (Q:VK) (E:XK),Room k (A.deeper (envOfC qual (B7 st) s.heap.objs.size f cdv))->sp vs H Q E ->
   ∃t,PSs (Vf CX0 P w K mg base N qual (B7 st) f cdv A outer s H E).nox (M5 st) t/\t { nx:=fun _ H'=>Q .non H',rt:=Q } (Ee N vs) H):FnOk P w K mg base CX0 (k+1) f fd ps sp:=by
 obtain⟨oc,od,kV,doc,pm,an,cdv,ct,osl,rfl,lk,hcd⟩:=F.ex
 refine Zp lk hcd S len fun A outer s H vs Q E hr hsp=>?_
 obtain⟨t,h,q⟩:=hbody cdv A outer s H vs Q E hr hsp
 exact⟨t,h.nox,q⟩
theorem Fun.binds{x qual:Str}{st:Stmt}{f:Addr}{fd:FuncData}{ps:List Str}(F:Fun K x qual st f fd)
  (h:∀(kV doc pm:Value) (an:Option Addr) (cdv ct:Value) (us:List Value),us.length=ps.length->bindArgs (PySem.W.fnOf x qual (O3 st) (M5 st) (B7 st) .none kV doc pm an cdv ct) ⟨us,[]⟩=pure (ps.zip us)):Binds K fd ps []:=by
 obtain⟨oc,od,kV,doc,pm,an,cdv,ct,osl,rfl,lk,hcd⟩:=F.ex
 exact .all (h kV doc pm an cdv ct)
theorem fun_mk{x qual:Str}{st:Stmt}{f:Addr}{oc:Value}{od an:Option Addr}{osl:Array (Option Value)}{kV doc pm cdv ct:Value}(l:K.lookup f=some ⟨oc,od,.func (PySem.W.fnOf x qual (O3 st) (M5 st) (B7 st) .none kV doc pm an cdv ct),osl⟩)
  (c:PySem.W.codeIn K cdv qual=true) (k:PySem.W.keepIn K (.ref f)=true):Fun K x qual st f (PySem.W.fnOf x qual (O3 st) (M5 st) (B7 st) .none kV doc pm an cdv ct):=⟨⟨oc,od,kV,doc,pm,an,cdv,ct,osl,rfl,l,c⟩,k⟩
end
theorem Ew{A:Around}{k:Nat}(hr:Room k A):A.units+1<cLine:=Nat.lt_of_le_of_lt (Nat.add_le_add_left (by decide:1<=64) _) hr.units
section
variable{X:Cx}
theorem pv(i:Nat){x:Str}{pos:Pos}(hN:X.N[i]?=some x:=by rfl)(hv:Vis X.env.scope x:=by first | exact Or.inl rfl | exact Or.inr (Or.inl rfl) | exact Or.inr (Or.inr rfl))(hd:(x ==("__debug__":Str))=false:=by decide)
  (hcd:(x ==("__classdict__":Str))=false:=by decide):PE X (.Name x pos) (Hc i):=Ws hN hv hd hcd
end
theorem S6{A B:Prop}(h:B):if false=true then A else B:=by
 rw[if_neg Bool.false_ne_true]
 exact h
theorem Pw{A B:Prop}(h:A):if true=true then A else B:=by
 rw[if_pos rfl]
 exact h
theorem R1{c A B:Prop}[Decidable c](h1:c->A)(h2:¬c->B):if c then A else B:=by
 by_cases h:c
 ·rw[if_pos h]
  exact h1 h
 ·rw[if_neg h]
  exact h2 h
noncomputable def Same(H H':Hp):Prop:=∀b o,H b=some o->H' b=some o
theorem Same.refl(H:Hp):Same H H:=fun _ _ h=>h
theorem Same.trans{H H1 H2:Hp}(a:Same H H1)(b:Same H1 H2):Same H H2:=fun c o h=>b c o (a c o h)
theorem Same.free{H H':Hp}(e:Same H H'){l:Addr}(h:H' l=Option.none):H l=Option.none:=by
 cases q:H l with
 | none=>rfl
 | some o =>
  rw[e l o q]at h
  cases h
section
variable{κ:Type}[DecidableEq κ]
theorem Lr:∀{l:List κ} {k:κ},l.Nodup->¬k∈l->(l ++ [k]).Nodup
 | [],k,_,_=>by simp
 | a::r,k,h,hk=>by
  obtain⟨h1,h2⟩:=List.nodup_cons.mp h
  show(a ::(r ++ [k])).Nodup
  refine List.nodup_cons.mpr ⟨fun m=>?_,Lr h2 fun m=>hk (List.mem_cons.mpr (Or.inr m))⟩
  rcases List.mem_append.mp m with q | q
  ·exact h1 q
  ·exact hk (List.mem_cons.mpr (Or.inl (List.mem_singleton.mp q).symm))
end
noncomputable def cxC(X:Cx)(scope:Scope)(cl:List (Str×Addr))(N':List Str)(pins:List (Addr×Obj))(ex:List Addr)(s3:Shared)(H3:Hp):Cx where
 prog:=X.prog
 w:=X.w
 K:=X.K
 mg:=X.mg
 base:=X.base
 A:=X.A
 N:=N'
 s₀:=s3
 H₀:=H3
 env:=compEnvC scope cl s3.heap.objs.size X.env
 outer:=X.stack
 stack:=X.stack
 ex:=ex
 fn:=fun _=>false
 calm:=X.calm
 pn:=X.pn++pins
 xe:=fun _ _=>False
noncomputable def Caps(X:Cx)(scope:Scope)(cl:List (Str×Addr)):List Str->List (Option Nat)->Prop
 | [],[]=>True
 | _::N,none::c=>Caps X scope cl N c
 | x::N,some j::c=>(X.N[j]?=some x/\X.env.scope.names.lookup x=some .cell/\(relabel scope X.env).names.lookup x=some .cell/\cl.lookup x=X.env.cells.lookup x)/\Caps X scope cl N c
 | _,_=>False
noncomputable def ClIn(X:Cx):List (Str×Addr)->Prop
 | []=>True
 | p::r=>X.env.cells.lookup p.1=some p.2/\ClIn X r
structure CScope(X:Cx)(scope:Scope)(cl:List (Str×Addr))(N':List Str)(cap:List (Option Nat)):Prop where
 kind:scope.kind = .function
 nocell:∀y∈scope.names,y.2≠ .cell
 loc:∀y∈scope.names,y.2 = .local->scope.names.lookup y.1=some .local
 clos:closureFor scope X.env=pure cl
 cin:ClIn X cl
 has:((relabel scope X.env).names.all fun y=>!(y.2 == .cell||y.2 == .free)||(cl.lookup y.1).isSome)=true
 caps:Caps X scope cl N' cap
noncomputable def Ih(cap:List (Option Nat))(σ:St):St:=cap.map fun o=>o.bind fun j=>(σ[j]?).join
theorem ClIn.get{X:Cx}:∀{cl:List (Str×Addr)} {x:Str} {c:Addr},ClIn X cl->cl.lookup x=some c->X.env.cells.lookup x=some c
 | [],_,_,_,h=>by simp at h
 | (y,d)::r,x,c,⟨h1,h2⟩,h=>by
  rw[List.lookup_cons]at h
  cases e:x == y with
  | true =>
   rw[e]at h
   cases h
   rw[beq_iff_eq.mp e]
   exact h1
  | false =>
   rw[e]at h
   exact ClIn.get h2 h
theorem Caps.len{X:Cx}{scope:Scope}{cl:List (Str×Addr)}:∀{N:List Str} {cap:List (Option Nat)},Caps X scope cl N cap->cap.length=N.length
 | [],[],_=>rfl
 | _::N,none::c,h=>by rw[List.length_cons,List.length_cons,Caps.len (N:=N) (cap:=c) h]
 | _::N,some j::c,h=>by rw[List.length_cons,List.length_cons,Caps.len h.2]
 | [],_::_,h=>h.elim
 | _::_,[],h=>h.elim
theorem Caps.get{X:Cx}{scope:Scope}{cl:List (Str×Addr)}{j:Nat}{x:Str}:∀{N:List Str} {cap:List (Option Nat)} {i:Nat},Caps X scope cl N cap->N[i]?=some x->cap[i]?=some (some j) ->
  X.N[j]?=some x/\X.env.scope.names.lookup x=some .cell/\(relabel scope X.env).names.lookup x=some .cell/\cl.lookup x=X.env.cells.lookup x
 | [],_,_,_,h,_=>by simp at h
 | _::_,[],_,_,_,h=>by simp at h
 | y::N,none::c,0,_,_,h=>by simp at h
 | y::N,none::c,i+1,h,h1,h2=>Caps.get (N:=N) (cap:=c) (i:=i) h (by simpa using h1) (by simpa using h2)
 | y::N,some k::c,0,h,h1,h2=>by
  simp at h1 h2
  subst h1;subst h2
  exact h.1
 | y::N,some k::c,i+1,h,h1,h2=>Caps.get (N:=N) (cap:=c) (i:=i) h.2 (by simpa using h1) (by simpa using h2)
section
variable{X:Cx}{scope:Scope}{cl:List (Str×Addr)}{N':List Str}{cap:List (Option Nat)}{pins:List (Addr×Obj)}{σ:St}{H3:Hp}{s3:Shared}{ex:List Addr}
theorem d0{p:NameKind->Bool}:∀{names:List (Str×NameKind)} {q:Str->NameKind->Bool} {x:Str} {k:NameKind},(names.all fun y=>q y.1 y.2)=true->names.lookup x=some k->q x k=true
 | [],_,_,_,_,h=>by simp at h
 | (y,d)::r,q,x,k,ha,h=>by
  rw[List.all_cons,Bool.and_eq_true]at ha
  rw[List.lookup_cons]at h
  cases e:x == y with
  | true =>
   rw[e]at h
   cases h
   rw[beq_iff_eq.mp e]
   exact ha.1
  | false =>
   rw[e]at h
   exact d0 (p:=p) (names:=r) (q:=q) ha.2 h
theorem Inv.block(I:Inv X pins σ H3 s3)(S:CScope X scope cl N' cap)(hc:X.calm=true)(hex:∀b∈ex,p8 X pins H3 b/\∃o,s3.heap.get? b=some o){h1:Heap}{tk:Nat}
  (hns:h1.Ns s3.heap.objs.size (fun _=>none)) (hk:∀b o,s3.heap.get? b=some o->h1.get? b=some o) :
  Inv (cxC X scope cl N' pins ex s3 H3) [] (Ih cap σ) H3 { s3 with heap:=h1,toks:=tk }:=by
 have lt3:∀b o,s3.heap.get? b=some o->b≠s3.heap.objs.size:=fun b o e=>Nat.ne_of_lt (Heap.lt_size e)
 have hcell:∀x c,cl.lookup x=some c->∃v,s3.heap.IsCell c v:=fun x c e=>I.cell x c (S.cin.get e)
 have hfree:H3 s3.heap.objs.size=none:=I.hok.fresh (Nat.le_refl _)
 refine⟨⟨I.ok.mod,?_,I.ok.glob,I.ok.blt,Nat.le_refl _,fun x y c e1 e2=>I.ok.inj x y c (S.cin.get e1) (S.cin.get e2),fun x hx=>?_,fun x c h _=>absurd h Bool.false_ne_true,I.ok.hd,I.ok.frames,.inl rfl,fun b hb=>?_,I.bs,Nat.le_trans I.ok.bsz I.sz,fun b o e hb=>?_,fun b hb=>?_,I.stack,I.stkFree⟩,
  rfl,I.bare,Un.kept hk,⟨_,hns,fun i x v e1 e2 e3=>?_⟩,fun x c e=>?_,hfree,fun x c e=>I.freeC x c (S.cin.get e),fun p hp=>?_,I.hok.kept hk,?_⟩
 ·exact S.kind
 ·have q:∀k,(relabel scope X.env).names.lookup x=some k->(!(k == .cell||k == .free)||(cl.lookup x).isSome)=true:=fun k e=>d0 (p:=fun _=>true) (q:=fun a k=>!(k == .cell||k == .free)||(cl.lookup a).isSome) S.has e
  have hx':(relabel scope X.env).names.lookup x=some .cell\/(relabel scope X.env).names.lookup x=some .free:=hx
  have:(cl.lookup x).isSome=true:=by
   rcases hx' with e | e
   ·exact q _ e
   ·exact q _ e
  exact Option.isSome_iff_exists.mp this
 ·obtain⟨⟨_,_,_,_,f4,_⟩,o,e⟩:=hex b hb
  exact⟨lt3 b o e,fun x c ec=>f4 x c (S.cin.get ec)⟩
 ·obtain⟨⟨f0,f1,f2,f3,_⟩,_⟩:=hex b hb
  rcases f3 with f3 | f3
  ·exact I.ok.noex b o e f3
  ·have:=(I.ok.bs b o e).1
   exact absurd (Nat.lt_of_lt_of_le (Heap.lt_size this) f3) (Nat.lt_irrefl _)
 ·intro hf
  obtain⟨⟨_,f1,f2,_⟩,_⟩:=hex b hb
  rcases List.mem_cons.mp (I.stkSub b hf)with z | z
  ·exact f1 z
  ·exact f2 z
 ·unfold Ih at e2
  rw[List.getElem?_map]at e2
  cases ec:cap[i]? with
  | none=>rw[ec]at e2;cases e2
  | some o =>
   rw[ec]at e2
   cases o with
   | none=>cases e2
   | some j =>
    have e2':(σ[j]?).join=some v:=Option.some.inj e2
    obtain⟨c1,c2,c3,c4⟩:=S.caps.get e1 ec
    have ej:σ[j]?=some (some v):=by
     cases ej:σ[j]? with
     | none=>rw[ej]at e2';cases e2'
     | some z=>rw[ej]at e2';cases z with
      | none=>cases e2'
      | some z=>cases e2';rfl
    obtain⟨m,hn,hl⟩:=I.loc
    obtain⟨u,r,l⟩:=hl j x v c1 ej (.inr (.inl c2))
    refine⟨u,r,?_⟩
    rcases l with⟨k,_⟩ | ⟨_,c,hc',hcell'⟩
    ·have:X.env.scope.names.lookup x=some .local:=k
     rw[c2]at this;cases this
    ·exact .inr ⟨.inl c3,c,c4.trans hc',let⟨o,ho,hd⟩:=hcell';⟨o,hk _ _ ho,hd⟩⟩
 ·obtain⟨v,o,ho,hd⟩:=hcell x c e
  exact⟨v,o,hk _ _ ho,hd⟩
 ·have hp':p∈X.pn++pins:=by simpa [cxC] using hp
  obtain⟨e,n,ne,nf,d⟩:=I.pin p hp'
  refine⟨hk _ _ e,n,lt3 _ _ e,fun hf=>?_,d⟩
  rcases List.mem_cons.mp (I.stkSub p.1 hf)with z | z
  ·exact ne z
  ·exact nf z
 ·unfold Ih
  rw[List.length_map]
  exact S.caps.len
theorem Inv.unblock{σ':St}{H':Hp}{s':Shared}{h':Heap}(I:Inv X pins σ H3 s3)(hex:∀b∈ex,p8 X pins H3 b)(J:Inv (cxC X scope cl N' pins ex s3 H3) [] σ' H' s')(hb:Heap.SameBut s3.heap.objs.size s'.heap h') :
  Inv X pins σ H' { s' with heap:=h' }:=by
 have hfr:H' s3.heap.objs.size=none:=J.free
 refine I.call' (ch:=ex) J.os ⟨fun b o e n h1 h2=>?_,fun b o e n h1 h2=>?_,fun b o e n h2=>?_,fun b o e h2=>?_,J.base.tups,J.base.frzs,J.base.tbls⟩ (fun b ob e=>?_) J.bare fun b hbx=>?_
 ·exact(hb.2 b (Nat.ne_of_lt (Heap.lt_size e))).trans (J.base.keep b o e n h1 h2)
 ·obtain⟨sl,q⟩:=J.base.slot b o e n h1 h2
  exact⟨sl,(hb.2 b (Nat.ne_of_lt (Heap.lt_size e))).trans q⟩
 ·exact J.base.free b o e n h2
 ·obtain⟨o',q⟩:=J.base.there b o e h2
  exact⟨o',(hb.2 b (Nat.ne_of_lt (Heap.lt_size e))).trans q⟩
 ·refine(J.hok b ob e).stay (fun c w' hc q=>(hb.2 c ?_).trans q) (fun _ q=>q) fun _ _ q=>q
  rintro rfl
  rcases hc with z | z
  ·rw[<-z,hfr]at e;cases e
  ·rw[hfr]at z;cases z
 ·obtain⟨_,f1,_,f3,f4,f5⟩:=hex b hbx
  exact⟨f3,f1,f4,f5⟩
end
noncomputable def Bv(e:Expr)(d:Nat)(iter tg:Expr)(ifs:List Expr)(emit:Sem Fin->Sem Fin)(it acc:Value)(env:Env):Sem Fin:=do
 standAt iter.pos
 match <-pyNext it with
 | none=>pure (.done .next)
 | some v =>
  letOwnedTupleGo tg it v
  assign tg env v
  let mut ok:=true
  for c in ifs do
   if ok then ok <-isTrue c env (eval c env)
  if ok then emit (again (.compLoop e d it acc env))else again (.compLoop e d it acc env)
noncomputable def emL(elt:Expr)(acc:Value)(env:Env)(k:Sem Fin):Sem Fin:=(do let _ <-call (.builtin "list.append") [acc,<-eval elt env]:Sem Unit) >>= fun _=>k
noncomputable def emD(a b:Expr)(D:Addr)(env:Env)(k:Sem Fin):Sem Fin:=(do
   let kv <-eval a env
   let vv <-holding [kv] (eval b env)
   standAt { a.pos with endLine:=b.pos.endLine,endCol:=b.pos.endCol }
   holding [kv,vv] (dictSet D kv vv):Sem Unit) >>= fun _=>k
noncomputable def emS(elt:Expr)(acc:Value)(env:Env)(k:Sem Fin):Sem Fin:=(do let v <-eval elt env;standAt elt.pos;let _ <-call (.builtin "set.add") [acc,v]:Sem Unit) >>= fun _=>k
noncomputable def emN(e iter2:Expr)(d:Nat)(acc:Value)(env:Env)(k:Sem Fin):Sem Fin:=do
    let x <-eval iter2 env
    standAt iter2.pos
    let x <-foldedSetIterable iter2 env x
    let _ <-runOwn (.compStart e d (<-holding [x] (pyIter x)) acc env) env
    k
theorem Y3(elt tg iter:Expr)(ifs:List Expr)(scope:Scope)(pos:Pos)(it acc:Value)(env:Env) :
  compTurn (.ListComp elt [⟨tg,iter,ifs,0⟩] scope pos) 0 it acc env=Bv (.ListComp elt [⟨tg,iter,ifs,0⟩] scope pos) 0 iter tg ifs (emL elt acc env) it acc env:=rfl
theorem Ju(k v tg iter:Expr)(ifs:List Expr)(scope:Scope)(pos:Pos)(it:Value)(D:Addr)(env:Env) :
  compTurn (.DictComp k v [⟨tg,iter,ifs,0⟩] scope pos) 0 it (.ref D) env=Bv (.DictComp k v [⟨tg,iter,ifs,0⟩] scope pos) 0 iter tg ifs (emD k v D env) it (.ref D) env:=rfl
theorem Kc(elt tg iter tg2 iter2:Expr)(ifs ifs2:List Expr)(scope:Scope)(pos:Pos)(it acc:Value)(env:Env) :
  compTurn (.SetComp elt [⟨tg,iter,ifs,0⟩,⟨tg2,iter2,ifs2,0⟩] scope pos) 1 it acc env=Bv (.SetComp elt [⟨tg,iter,ifs,0⟩,⟨tg2,iter2,ifs2,0⟩] scope pos) 1 iter2 tg2 ifs2 (emS elt acc env) it acc env:=rfl
theorem Js(elt tg iter tg2 iter2:Expr)(ifs ifs2:List Expr)(scope:Scope)(pos:Pos)(it acc:Value)(env:Env) :
  compTurn (.SetComp elt [⟨tg,iter,ifs,0⟩,⟨tg2,iter2,ifs2,0⟩] scope pos) 0 it acc env=Bv (.SetComp elt [⟨tg,iter,ifs,0⟩,⟨tg2,iter2,ifs2,0⟩] scope pos) 0 iter tg ifs
   (emN (.SetComp elt [⟨tg,iter,ifs,0⟩,⟨tg2,iter2,ifs2,0⟩] scope pos) iter2 1 acc env) it acc env:=rfl
noncomputable abbrev TEm:=St->Hp->(St->Hp->Prop)->Prop
noncomputable def PEm(X:Cx)(emit:Sem Fin->Sem Fin)(t:TEm):Prop :=
 ∀(pins:List (Addr×Obj)) (s:Shared) (σ:St) (H:Hp) (Q:St->Hp->Prop) (k:Sem Fin) (F:Fin->Shared->Prop) (E:Value->Shared->Prop),Inv X pins σ H s->t σ H Q ->
  (∀s' σ' H',Inv X pins σ' H' s'->Q σ' H'->wpAny (model X.prog X.w) X.A k F E s')->wpAny (model X.prog X.w) X.A (emit k) F E s
noncomputable def PTs(X:Cx)(ifs:List Expr)(t:TT):Prop :=
 ∀(pins:List (Addr×Obj)) (s:Shared) (σ:St) (H:Hp) (Q:Bool->Hp->Prop),Inv X pins σ H s->t σ H Q ->
  wpAny (model X.prog X.w) X.A (forIn ifs true fun c r=>if r=true then do let ok <-isTrue c X.env (eval c X.env);pure (ForInStep.yield ok)else pure (ForInStep.yield r)) (TP X pins σ Q) X.xe s
noncomputable def De:TT:=fun _ H Q=>Q true H
theorem E9{X:Cx}:PTs X [] De:=fun _ _ _ H _ I h=>wpAny_tests_nil ⟨H,I,h⟩
theorem P2{X:Cx}{c:Expr}{t:TT}(h:PT X c t):PTs X [c] t:=fun pins s σ H Q I q=>wpAny_tests_one (h pins s σ H Q I q)
noncomputable def Aq(g:TG)(tc:TT)(em:TEm)(J:It)(σ:St)(H:Hp)(Q:St->Hp->Prop):Prop :=
 ∃W:Nat->Nat->St->Hp->Prop,(∃m,W 0 m σ H)/\∀i m σ H,W i m σ H->(J.stop i H/\Q σ H)\/(J.go i H/\∀x H',J.yld i H x H'->g x σ H' fun σ2 H2=>tc σ2 H2 fun b H3 =>
  if b=true then em σ2 H3 fun σ3 H4=>∃m',m' < m/\W (i+1) m' σ3 H4 else ∃m',m' < m/\W (i+1) m' σ2 H3)
section
variable{X:Cx}{e tg iter:Expr}{d:Nat}{ifs:List Expr}{emit:Sem Fin->Sem Fin}{it:Addr}{acc:Value}{g:TG}{tc:TT}{em:TEm}{J:It}{fp:List Addr}{tn:Nat->Heap->Prop}{R:Result->Shared->Prop}
theorem O9(hun:X.A.under (.compLoop e d (.ref it) acc X.env)=X.A)(hden:(model X.prog X.w).den (.compLoop e d (.ref it) acc X.env) =(compTurn e d (.ref it) acc X.env).onRaise (fun x=>do noteFrame x X.env;theTreesLotGoes x))(hc:X.calm=true)(hxe:X.xe=fun _ _=>False)(hct:compTurn e d (.ref it) acc X.env=Bv e d iter tg ifs emit (.ref it) acc X.env)(hg:PG X tg g)(ht:PTs X ifs tc)(hem:PEm X emit em)
  (T:Turn X.prog X.w X.K tg J fp it tn) {pins:List (Addr×Obj)} {s:Shared} {σ:St} {H:Hp} {Q:St->Hp->Prop} (I:Inv X pins σ H s) (st:tn 0 s.heap) (hf:∀b∈fp,p8 X pins H b) (h:Aq g tc em J σ H Q)
  (hR:∀s' σ' H',Inv X pins σ' H' s'->Q σ' H'->R (.ok .next) s'):codeAny (model X.prog X.w) X.A (.compLoop e d (.ref it) acc X.env) R s:=by
 obtain⟨W,⟨m0,w0⟩,turn⟩:=h
 have stat:∀{H':Hp},(∀b∈fp,H' b=none)->∀b∈fp,p8 X pins H' b:=fun hn b hb=>⟨hn b hb,(hf b hb).2⟩
 have no:∀{α:Type} {m:Sem α} {P:α->Shared->Prop} {E:Value->Shared->Prop} {s:Shared},wpAny (model X.prog X.w) X.A m P X.xe s->wpAny (model X.prog X.w) X.A m P E s:=fun q=>by
  rw[hxe]at q
  exact wpAny_mono q (fun _ _ z=>z) fun _ _ z=>z.elim
 refine codeAny_loop rfl (fun n s'=>∃i σ' H',Inv X pins σ' H' s'/\tn i s'.heap/\(∀b∈fp,H' b=none)/\W i n σ' H') (fun n s3 hI=>?_) m0 ⟨0,σ,H,I,st,fun b hb=>(hf b hb).1,w0⟩
 obtain⟨i,σ3,H3,I3,st3,fr3,w3⟩:=hI
 rw[hun,hden]
 refine wpAny_noted ?_
 rw[hct]
 unfold Bv
 refine wpAny_bind (wpAny_standAt (wpAny_bind ?_))
 rcases turn i n σ3 H3 w3 with⟨stop,qn⟩ | ⟨go,step⟩
 ·refine wpAny_mono (T.done X rfl rfl rfl hc i pins s3 σ3 H3 _ I3 (stat fr3) st3 stop) (fun r s4 ⟨hr,I4⟩=>?_) fun _ _ z=>z
  subst hr
  exact wpAny_pure (hR s4 σ3 H3 I4 qn)
 ·refine wpAny_mono (T.item X rfl rfl rfl hc i pins s3 σ3 H3 _ I3 (stat fr3) st3 go) (fun r s4 ⟨u,hr,h4⟩=>?_) fun _ _ z=>z
  subst hr
  refine wpAny_bind (wpAny_mono h4 (fun _ s5 ⟨x,H5,I5,r5,y5,st5,fr5⟩=>?_) fun _ _ z=>z)
  have I5':=I5.pinned (stat fr5) (T.obj _ _ st5)
  have again:∀{σ7:St} {H7:Hp} {s7:Shared},Inv X (pins++Dr fp s5.heap) σ7 H7 s7->(∃m',m' < n/\W (i+1) m' σ7 H7)->∃m,m<n/\∃i σ' H',Inv X pins σ' H' s7/\tn i s7.heap/\(∀b∈fp,H' b=none)/\W i m σ' H':=fun{σ7 H7 s7} I7 n7=>by
   obtain⟨m',hm,w7⟩:=n7
   refine⟨m',hm,i+1,σ7,H7,I7.unpinned,T.keep _ _ _ st5 fun b hb o e=>(I7.pin (b,o) (List.mem_append_right _ (List.mem_append_right _ (R9 hb e)))).1,fun b hb=>?_,w7⟩
   obtain⟨o,e,d⟩:=T.obj _ _ st5 b hb
   exact(I7.pin (b,o) (List.mem_append_right _ (List.mem_append_right _ (R9 hb e)))).2.1
  refine wpAny_bind (wpAny_mono (no (hg _ s5 σ3 H5 x u _ I5' r5 (step x H5 y5))) (fun _ s6 ⟨σ6,H6,I6,q6⟩=>?_) fun _ _ z=>z)
  refine wpAny_bind (wpAny_mono (no (ht _ s6 σ6 H6 _ I6 q6)) (fun ok s7 ⟨H7,I7,q7⟩=>?_) fun _ _ z=>z)
  cases ok with
  | false=>exact wpAny_pure ⟨rfl,again I7 q7⟩
  | true =>
   exact hem _ s7 σ6 H7 _ _ _ _ I7 q7 fun s8 σ8 H8 I8 q8=>wpAny_pure ⟨rfl,again I8 q8⟩
theorem S0(hun:X.A.under (.compStart e d (.ref it) acc X.env)=X.A)(hden:(model X.prog X.w).den (.compStart e d (.ref it) acc X.env) =(compStart e d (.ref it) acc X.env).onRaise (fun x=>do noteFrame x X.env;standAt theWindowsPlace)){gs:List Comprehension}(hgs:clausesOf e=gs)(hd:gs[d]?=some ⟨tg,iter,ifs,0⟩){s:Shared}(T:Turn X.prog X.w X.K tg J fp it tn)(st:tn 0 s.heap)
  (h:codeAny (model X.prog X.w) X.A (.compLoop e d (.ref it) acc X.env) R s):codeAny (model X.prog X.w) X.A (.compStart e d (.ref it) acc X.env) R s:=by
 refine codeAny_of_tree ?_
 rw[hun,hden]
 refine wpAny_notedAt ?_
 unfold compStart
 rw[hgs,hd]
 show wpAny _ X.A (ask >>= _) _ _ s
 refine wpAny_bind (wpAny_askSetting (wpAny_ite ?_))
 have h1:=T.self X.A 0 s (fun it' s'=>codeAny (model X.prog X.w) X.A (.compLoop e d it' acc X.env) R s') (notedBy (model X.prog X.w) X.A X.env fun x s'=>R (.error x) s') st h
 split
 ·first
   | exact wpAny_bind (wpAny_pure (wpAny_pure (And.intro rfl h)))
   | exact wpAny_pure (And.intro rfl h)
 ·first
   | exact wpAny_bind (wpAny_rule (wpAny_bind (wpAny_standAt (wpAny_bind (wpAny_mono h1 (fun it' s' h'=>wpAny_pure (And.intro rfl h')) fun _ _ x=>x)))))
   | (refine wpAny_bind (wpAny_rule ?_);show wpAny _ _ (standAt iter.pos >>= _) _ _ s;exact wpAny_bind (wpAny_standAt (wpAny_bind (wpAny_mono h1 (fun it' s' h'=>wpAny_pure (And.intro rfl h')) fun _ _ x=>x))))
end
section
variable{X:Cx}{tg iter:Expr}{ifs:List Expr}{g:TG}{tc:TT}{em:TEm}{scope:Scope}{cl:List (Str×Addr)}{N':List Str}{cap:List (Option Nat)}{pos:Pos}{wi:TI}
noncomputable def t9(wi:TI)(o:Addr->HO)(cap:List (Option Nat))(lp:Addr->It->St->Hp->(St->Hp->Prop)->Prop):TE:=fun σ H Q=>wi σ H fun J H1=>∀D,H1 D=none->lp D J (Ih cap σ) (upd H1 D (o D)) fun _ H2=>Q (.ref D) H2
theorem Cu{e:Expr}{gs:List Comprehension}{newAcc:Sem Value}{p2:Pos}(hcl:clausesOf e =⟨tg,iter,ifs,0⟩::gs)(o:Addr->HO)(hs:∀x,foldedSetIterable iter X.env x=pure x)(S:CScope X scope cl N' cap)(hc:X.calm=true)(hi:PI X tg iter wi)
  {lp:Addr->It->St->Hp->(St->Hp->Prop)->Prop}
  (hnew:∀(pins:List (Addr×Obj)) (s:Shared) (σ:St) (H:Hp) (Q:Value->Shared->Prop) (E:Value->Shared->Prop),Inv X pins σ H s->(∀s',Inv X pins σ (upd H s.heap.objs.size (o s.heap.objs.size)) s'->(∀b ob,s.heap.get? b=some ob->s'.heap.get? b=some ob)->Q (.ref s.heap.objs.size) s')->wpAny (model X.prog X.w) X.A newAcc Q E s)
  (hlp:∀(pins:List (Addr×Obj)) (ex:List Addr) (s3:Shared) (H3:Hp) (D it:Addr) (fp:List Addr) (tn:Nat->Heap->Prop) (J:It) (σ:St) (s:Shared) (H:Hp) (Q:St->Hp->Prop) (R:Result->Shared->Prop),
   Turn X.prog X.w X.K tg J fp it tn->Inv (cxC X scope cl N' pins ex s3 H3) [] σ H s->tn 0 s.heap->(∀b∈fp,p8 (cxC X scope cl N' pins ex s3 H3) [] H b)->lp D J σ H Q ->
   (∀s' σ' H',Inv (cxC X scope cl N' pins ex s3 H3) [] σ' H' s'->Q σ' H'->R (.ok .next) s') ->
   codeAny (model X.prog X.w) X.A (.compLoop e 0 (.ref it) (.ref D) (compEnvC scope cl s3.heap.objs.size X.env)) R s)
  (hun:∀it D env,X.A.under (.compStart e 0 (.ref it) (.ref D) env)=X.A) (hden:∀it D env,(model X.prog X.w).den (.compStart e 0 (.ref it) (.ref D) env) =(compStart e 0 (.ref it) (.ref D) env).onRaise (fun x=>do noteFrame x env;standAt theWindowsPlace))
  (hev:∀E Q s,wpAny (model X.prog X.w) X.A (comprehension e scope X.env p2 newAcc false (eval iter X.env)) Q E s->wpAny (model X.prog X.w) X.A (eval e X.env) Q E s) :
  PE X e (t9 wi o cap lp):=by
 intro pins s σ H Q I h
 refine hev _ _ _ (wpAny_comprehension_free (use:=none) hcl hs S.clos S.kind S.loc (thn (hi pins s σ H _ I h) fun v s1 h1=>thn h1 fun itv s2 h2=>?_))
 obtain⟨it,fp,tn,J,H2,eit,I2,T,st2,f2,R2⟩:=h2
 subst eit
 refine hnew pins s2 σ H2 _ _ I2 fun s3 I3 k3=>?_
 have hD:H2 s2.heap.objs.size=none:=I2.hok.fresh (Nat.le_refl _)
 have fok:∀b∈fp,p8 X pins (upd H2 s2.heap.objs.size (o s2.heap.objs.size)) b/\∃ob,s3.heap.get? b=some ob:=fun b hb=>by
  obtain⟨ob,e,_⟩:=T.obj _ _ st2 b hb
  obtain⟨f0,fr⟩:=f2 b hb
  exact⟨⟨by rw[B6 (Nat.ne_of_lt (Heap.lt_size e))];exact f0,fr⟩,ob,k3 b ob e⟩
 refine wpAny_newFunctionEnv S.nocell (by intro y hy;simp at hy) (fun h1 hns hsb=>?_) S.kind
 have hk:∀b ob,s3.heap.get? b=some ob->h1.get? b=some ob:=fun b ob e=>(hsb.2 b (Nat.ne_of_lt (Heap.lt_size e))).trans (Heap.get?_push_of_some _ e)
 have I4:Inv (cxC X scope cl N' pins fp s3 (upd H2 s2.heap.objs.size (o s2.heap.objs.size))) [] (Ih cap σ) (upd H2 s2.heap.objs.size (o s2.heap.objs.size)) { s3 with heap:=h1,toks:=s3.toks +([]:List (Str×Value)).length } :=
  I3.block S hc fok hns hk
 have st4:tn 0 h1:=T.keep 0 _ _ st2 fun b hb ob e=>hk b ob (k3 b ob e)
 refine S0 (X:=cxC X scope cl N' pins fp s3 (upd H2 s2.heap.objs.size (o s2.heap.objs.size))) (gs:=⟨tg,iter,ifs,0⟩::gs) (e:=e) (d:=0) (tg:=tg) (iter:=iter) (ifs:=ifs) (hun _ _ _) (hden _ _ _) hcl rfl T st4 ?_
 refine hlp pins fp s3 _ s2.heap.objs.size it fp tn J (Ih cap σ) _ _ _ _ T I4 st4 (fun b hb=>?_) (R2 _ hD) fun s' σ' H' I' q'=>?_
 ·obtain⟨⟨f0,f1,f2',f3,f4,f5⟩,ob,eo⟩:=fok b hb
  refine⟨f0,Nat.ne_of_lt (Heap.lt_size eo),fun hf=>?_,.inl hb,fun x c e=>f4 x c (S.cin.get e),fun p hp=>f5 p (by simpa [cxC] using hp)⟩
  rcases List.mem_cons.mp (I3.stkSub b hf)with z | z
  ·exact f1 z
  ·exact f2' z
 ·obtain⟨m,hn,_⟩:=I'.loc
  exact⟨m,hn,fun h' hb=>⟨.ref _,H',I3.unblock (fun b hb=>(fok b hb).1) I' hb,rfl,q'⟩⟩
end
section
variable{X:Cx}{tg iter elt:Expr}{ifs:List Expr}{g:TG}{tc:TT}{te:TE}{scope:Scope}{cl:List (Str×Addr)}{N':List Str}{cap:List (Option Nat)}{pos:Pos}{wi:TI}
noncomputable def Df(D:Addr)(te:TE):TEm:=fun σ H Q=>te σ H fun y H1=>∃ys,H1 D=some (.lst ys)/\ys.length<sizeLine/\Q σ (upd H1 D (.lst (ys ++ [y])))
theorem Bh{α:Type}{X:Cx}(hxe:X.xe=fun _ _=>False){m:Sem α}{P:α->Shared->Prop}{E:Value->Shared->Prop}{s:Shared}(q:wpAny (model X.prog X.w) X.A m P X.xe s):wpAny (model X.prog X.w) X.A m P E s:=by
 rw[hxe]at q
 exact wpAny_mono q (fun _ _ z=>z) fun _ _ z=>z.elim
theorem Bw{D:Addr}(hxe:X.xe=fun _ _=>False)(he:PE X elt te):PEm X (emL elt (.ref D) X.env) (Df D te):=by
 intro pins s σ H Q k F E I h hk
 unfold emL
 refine wpAny_bind (wpAny_bind (wpAny_mono (Bh hxe (he pins s σ H _ I h)) (fun u s1 ⟨y,H1,I1,r1,ys,e1,z1,q1⟩=>?_) fun _ _ z=>z))
 refine wpAny_bind (wpAny_mono (Bh hxe (G8 pins s1 σ H1 (.ref D) [y] (.ref D) [u] (fun v H2=>v = .non/\Q σ H2) I1 rfl (.cons r1 .nil) ⟨D,ys,y,rfl,rfl,e1,z1,rfl,q1⟩)) (fun v s2 ⟨y2,H2,I2,r2,_,q2⟩=>?_) fun _ _ z=>z)
 exact wpAny_pure (hk s2 σ H2 I2 q2)
theorem Q9(S:CScope X scope cl N' cap)(hc:X.calm=true)(hi:PI X tg iter wi)
  (hb:∀(pins:List (Addr×Obj)) (ex:List Addr) (s3:Shared) (H3:Hp),PG (cxC X scope cl N' pins ex s3 H3) tg g/\PTs (cxC X scope cl N' pins ex s3 H3) ifs tc/\PE (cxC X scope cl N' pins ex s3 H3) elt te)
  (hs:∀x,foldedSetIterable iter X.env x=pure x:=by intro _;rfl) :
  PE X (.ListComp elt [⟨tg,iter,ifs,0⟩] scope pos) (t9 wi (fun _=>.lst []) cap fun D J σ H Q=>Aq g tc (Df D te) J σ H Q):=by
 refine Cu (newAcc:=newList []) (p2:=firstIterPos [⟨tg,iter,ifs,0⟩] pos) rfl (fun _=>.lst []) hs S hc hi (fun pins s σ H Q E I h=>?_) (fun pins ex s3 H3 D it fp tn J σ s H Q R T I st hf h hR=>?_) (fun _ _ _=>rfl) (fun _ _ _=>rfl) (fun E Q s h=>h)
 ·refine wpAny_newList ?_
  exact h _ (I.lnew (t':=s.toks) (its:=[]) .nil (Nat.zero_le _)) fun b ob e=>Heap.get?_push_of_some _ e
 ·obtain⟨b1,b2,b3⟩:=hb pins ex s3 H3
  exact O9 (X:=cxC X scope cl N' pins ex s3 H3) rfl rfl hc rfl (Y3 elt tg iter ifs scope pos _ _ _) b1 b2 (Bw rfl b3) T I st hf h hR
noncomputable def Re(D:Addr)(tk tv:TE):TEm:=fun σ H Q=>tk σ H fun y H1=>tv σ H1 fun v H2=>∃kvs k,H2 D=some (.dK kvs)/\y=kV k/\kvs.length<sizeLine/\Q σ (upd H2 D (.dK (Mw kvs k v)))
theorem Qh{D:Addr}{a b:Expr}{ta tb:TE}(hxe:X.xe=fun _ _=>False)(ha:PE X a ta)(hb:PE X b tb):PEm X (emD a b D X.env) (Re D ta tb):=by
 intro pins s σ H Q k F E I h hk
 unfold emD
 refine wpAny_bind (wpAny_bind (wpAny_mono (Bh hxe (ha pins s σ H _ I h)) (fun u s1 ⟨y,H1,I1,r1,q1⟩=>?_) fun _ _ z=>z))
 refine wpAny_bind (wpAny_holding (wpAny_mono (Bh hxe (hb pins s1 σ H1 _ I1 q1)) (fun r s2 ⟨v,H2,I2,rv,kvs,kk,e,ey,l,q2⟩=>?_) fun _ _ z=>z))
 refine wpAny_bind (wpAny_standAt (wpAny_holding ?_))
 subst ey
 obtain⟨z,hd,vs,rel,dd⟩:=Zc I2.hok e
 have hz:vs.length<=sizeLine:=by rw[<-rel.length];exact z
 have hl:(Mw kvs kk v).length<=sizeLine:=by have:=U7 kvs kk v;omega
 refine wpAny_dictSet_pairs (hsz:=hz) (Ly r1) dd fun h' dd' hs=>?_
 have he:∃q,h'.get? D=some q:=let⟨q,_,_,hq,_⟩:=dd';⟨q,hq⟩
 exact hk _ σ _ (Tk (t':=s2.toks+1) I2 (by rw[e];exact True.intro) hs he (Wj hl hd (rel.put kk rv) dd')) q2
theorem Tu{a b:Expr}{ta tb:TE}(S:CScope X scope cl N' cap)(hc:X.calm=true)(hi:PI X tg iter wi)
  (hb:∀(pins:List (Addr×Obj)) (ex:List Addr) (s3:Shared) (H3:Hp),PG (cxC X scope cl N' pins ex s3 H3) tg g/\PTs (cxC X scope cl N' pins ex s3 H3) ifs tc/\PE (cxC X scope cl N' pins ex s3 H3) a ta/\PE (cxC X scope cl N' pins ex s3 H3) b tb)
  (hs:∀x,foldedSetIterable iter X.env x=pure x:=by intro _;rfl) :
  PE X (.DictComp a b [⟨tg,iter,ifs,0⟩] scope pos) (t9 wi (fun _=>.dK []) cap fun D J σ H Q=>Aq g tc (Re D ta tb) J σ H Q):=by
 refine Cu (newAcc:=newDict) (p2:=firstIterPos [⟨tg,iter,ifs,0⟩] pos) rfl (fun _=>.dK []) hs S hc hi (fun pins s σ H Q E I h=>?_) (fun pins ex s3 H3 D it fp tn J σ s H Q R T I st hf h hR=>?_) (fun _ _ _=>rfl) (fun _ _ _=>rfl) (fun E Q s h=>h)
 ·refine wpAny_newObj_type ?_
  exact h _ (I.laid (a:=s.heap.objs.size) (o:=.dK []) (t':=s.toks) (fun _ _ q=>Heap.get?_push_of_some _ q) (Nat.le_refl _) (Qg s.heap I.big)) fun b ob e=>Heap.get?_push_of_some _ e
 ·obtain⟨b1,b2,b3,b4⟩:=hb pins ex s3 H3
  exact O9 (X:=cxC X scope cl N' pins ex s3 H3) rfl rfl hc rfl (Ju a b tg iter ifs scope pos _ _ _) b1 b2 (Qh rfl b3 b4) T I st hf h hR
end
instance:LawfulBEq Key where
 rfl {a}:=by cases a with
  | inl i=>show(i == i)=true;simp
  | inr x=>show(x == x)=true;simp
 eq_of_beq {a b} h:=by
  cases a with
  | inl i=>cases b with
   | inl j=>exact congrArg Sum.inl (eq_of_beq (show(i == j)=true from h))
   | inr j=>exact absurd h (by intro z;cases z)
  | inr i=>cases b with
   | inl j=>exact absurd h (by intro z;cases z)
   | inr j=>exact congrArg Sum.inr (eq_of_beq (show(i == j)=true from h))
noncomputable def Kw(P:Program)(w:World)(a:Addr)(l:List Key):HO:=.ext fun h=>h.SetOf (D8 P w) a (fun k=>decide (k∈l)) l.length
section
variable{X:Cx}{pins:List (Addr×Obj)}{σ:St}{H:Hp}{s:Shared}{a:Addr}{l:List Key}
theorem Xe{P:Program}{w:World}{H:Hp}{h:Heap}(z:h.SetOf (D8 P w) a (fun k=>decide (k∈l)) l.length):ObjOk P w H h a (Kw P w a l) :=
 ⟨z,let⟨o,_,_,_,e,_⟩:=z;⟨o,e⟩,fun h1 h2 ⟨o,es,ep,t,e,r⟩ k=>⟨o,es,ep,t,k o e,r⟩⟩
theorem Inv.set(I:Inv X pins σ H s)(e:H a=some (Kw X.prog X.w a l)):s.heap.SetOf (D8 X.prog X.w) a (fun k=>decide (k∈l)) l.length:=by
 obtain⟨z,_⟩:=(show ObjOk X.prog X.w H s.heap a (Kw X.prog X.w a l)from I.hok a _ e)
 exact z
theorem Jl{k:Key}{u:Value}(r:RelV (kV k) u):u.scannable=true:=by
 cases k with
 | inl i=>obtain⟨t,rfl⟩:=r;rfl
 | inr x=>obtain⟨t,rfl⟩:=r;rfl
noncomputable def Yq(l:List Key)(k:Key):List Key:=if k∈l then l else l ++ [k]
theorem Hq{P:Program}{w:World}{h:Heap}{S S':Key->Bool}{n n':Nat}(z:h.SetOf (D8 P w) a S n)(e:∀k,S' k=S k)(en:n'=n):h.SetOf (D8 P w) a S' n':=by
 have:S'=S:=funext e
 subst this;subst en;exact z
theorem Lz:G5 X (.type "set") (fun xs H Q=>xs = []/\∀p,H p=none->Q (.ref p) (upd H p (Kw X.prog X.w p []))):=by
 intro pins s σ H xs us Q I r h
 obtain⟨rfl,q⟩:=h
 cases r
 refine call_set_0 fun led=>⟨.ref s.heap.objs.size,_,I.laid (t':=s.toks) (fun b o e=>Heap.get?_push_of_some _ e) (Nat.le_refl _) (Xe ?_),rfl,q _ (I.hok.fresh (Nat.le_refl _))⟩
 exact(setObjOf_fresh led).setOf (Heap.get?_push_size _ rfl) (by decide)
noncomputable def Vk(P:Program)(w:World):V->List V->Hp->VK->Prop:=fun x vs H Q=>∃a l k,x = .ref a/\vs = [kV k]/\H a=some (Kw P w a l)/\l.length+1<4096/\Q .non (upd H a (Kw P w a (Yq l k)))
theorem Xh:MtM X "set.add" (Vk X.prog X.w):=by
 intro pins s σ H x vs v us Q I rx rv h
 obtain⟨a,l,k,rfl,rfl,hH,hz,q⟩:=h
 cases rx
 obtain⟨u,rfl,ru⟩:=rv.one
 refine call_set_add (Ly ru) (Jl ru) (I.set hH) hz fun h' hs z=>?_
 refine⟨.non,_,I.write (x:=a) (e:=a) (t':=s.toks+1) (by rw[hH];exact True.intro) (.inl rfl) (fun b q hb e=>(hs.2 b hb).trans e) (let⟨o,_,_,_,e,_⟩:=z;⟨o,e⟩) (Xe (Hq z (fun k'=>?_) ?_)),rfl,q⟩
 ·unfold Yq
  by_cases e:k∈l
  ·rw[if_pos e]
   by_cases ek:k'=k
   ·subst ek;simp[e]
   ·simp[ek]
  ·rw[if_neg e]
   simp
 ·unfold Yq
  by_cases e:k∈l
  ·rw[if_pos e];simp[e]
  ·rw[if_neg e];simp[e]
noncomputable def zAi(P:Program)(w:World)(neg:Bool):R2:=fun x y H Q=>∃a l k,y = .ref a/\x=kV k/\H a=some (Kw P w a l)/\Q (.bl (if neg then !decide (k∈l)else decide (k∈l))) H
theorem Na:OpR X (compareOp .In) (zAi X.prog X.w false):=by
 intro pins s σ H x y v u Q I rx ry h
 obtain⟨a,l,k,rfl,rfl,hH,q⟩:=h
 cases ry
 exact wpAny_inSet_of (Ly rx) (Jl rx) (I.set hH) ⟨.bl (decide (k∈l)),H,I.tok _,rfl,q⟩
end
section
variable{X:Cx}{tg iter elt tg2 iter2:Expr}{g g2:TG}{tc tc2:TT}{te:TE}{ifs ifs2:List Expr}{scope:Scope}{cl:List (Str×Addr)}{N':List Str}{cap:List (Option Nat)}{pos:Pos}{wi wi2:TI}
noncomputable def Zx(wi:TI)(lp:It->St->Hp->(St->Hp->Prop)->Prop):TEm:=fun σ H Q=>wi σ H fun J H1=>lp J σ H1 Q
end
noncomputable def Its(x:Str):It:=⟨fun i _=>i<x.cps.size,fun i H v H'=>H'=H/\∃c,x.cps[i]?=some c/\v = .str ⟨#[c]⟩,fun i _=>i=x.cps.size⟩
theorem Jf{P:Program}{w:World}{K:PySem.W.Frag}{tg:Expr}(it:Addr)(x:Str)(t:Tok)(ty:String)(hty:["enumerate", "zip", "dict_itemiterator", "dict_reverseitemiterator", "odict_iterator", "itertools.zip_longest", "itertools.pairwise"].contains ty=false)
  (W:∀A':Around,A'.handled=none->Walks P w A' it [it] [it] x.cps.size (SignAt x) (fun i h=>h.IsStrIter it ty x t i))
  (hself:∀(A:Around) (i:Nat) (s:Shared) (Q:Value->Shared->Prop) (E:Value->Shared->Prop),s.heap.IsStrIter it ty x t i->Q (.ref it) s->wpAny (model P w) A (pyIter (.ref it)) Q E s):Turn P w K tg (Its x) [it] it (fun i h=>h.IsStrIter it ty x t i) where
 mem:=by simp
 obj:=fun i h st b hb=>by
  have e:b=it:=by simpa using hb
  subst e
  obtain⟨o,e,c,d⟩:=st
  exact⟨o,e,fun v z=>by rw[d]at z;cases z⟩
 keep:=fun i h h' st k=>let⟨o,e,r⟩:=st;⟨o,k it (by simp) o e,r⟩
 item:=by
  intro X hP hw hK hc i pins s σ H E I hf st hg
  subst hP hw hK
  obtain⟨f0,f1,f2,f3,f4,f5⟩:=hf it (by simp)
  refine(W X.A (I.ok.hd hc)).item i s _ _ hg st fun v h' tk hv st' k=>?_
  obtain⟨c,u,ec,ev⟩:=hv
  have I1:Inv X pins σ H { s with heap:=h',toks:=tk }:=I.turned (fun b o hb e=>k b o (by simpa using hb) e) f0 f1 f3 f4 f5
  obtain⟨o,e,c',d⟩:=id st'
  exact⟨v,rfl,Qj (s:={ s with heap:=h',toks:=tk }) e c' d hty ⟨.str ⟨#[c]⟩,H,I1,⟨u,ev⟩,⟨rfl,c,ec,rfl⟩,st',fun b hb=>(hf b hb).1⟩⟩
 done:=by
  intro X hP hw hK hc i pins s σ H E I hf st hg
  subst hP hw hK
  obtain⟨f0,f1,f2,f3,f4,f5⟩:=hf it (by simp)
  have hg':i=x.cps.size:=hg
  subst hg'
  exact(W X.A (I.ok.hd hc)).done s _ _ st fun h' tk k=>⟨rfl,I.turned (fun b o hb e=>k b o (by simpa using hb) e) f0 f1 f3 f4 f5⟩
 self:=fun A i s Q E st h=>hself A i s Q E st h
section
variable{X:Cx}{tg:Expr}
noncomputable def zBj(te:TE):TI:=fun σ H R=>te σ H fun x H1=>∃z,x = .str z/\R (Its z) H1
theorem Xr{l:Expr}{tl:TE}(hl:PE X l tl):PI X tg l (zBj tl):=by
 intro pins s σ H R I h
 refine thn (hl pins s σ H _ I h) fun v s1 ⟨x,H1,I1,r1,q1⟩=>?_
 obtain⟨z,e,q⟩:=q1
 subst e
 obtain⟨t,rfl⟩:=r1
 have fin:∀(o:Obj) (ty:String),o.cls = .type ty->o.data = .fields #[.str z t,.int (0:Nat) 0]->o.isFreed=false->Turn X.prog X.w X.K tg (Its z) [s1.heap.objs.size] s1.heap.objs.size (fun i h=>h.IsStrIter s1.heap.objs.size ty z t i) ->
   PIE X pins σ tg R (.ref s1.heap.objs.size) { s1 with heap:=s1.heap.push o }:=fun o ty c d hf T=>by
  refine⟨s1.heap.objs.size,[s1.heap.objs.size],_,_,H1,rfl,I1.kept (t':=s1.toks) fun b o e=>Heap.get?_push_of_some _ e,T,⟨o,Heap.get?_push_size _ hf,c,d⟩,fun b hb=>?_,q⟩
  have e:b=s1.heap.objs.size:=by simpa using hb
  subst e
  exact I1.fpOk (Nat.le_refl _) (I1.hok.fresh (Nat.le_refl _))
 cases ha:z.cps.all (· < 128)
 ·exact wpAny_pyIter_wide ha (fin _ _ rfl rfl rfl (Jf _ z t "str_iterator" (by decide) (fun A' hA=>Walks.strWide hA _ z t) fun A i s Q E st h=>wpAny_pyIter_striter_wide st h))
 ·exact wpAny_pyIter_ascii ha (fin _ _ rfl rfl rfl (Jf _ z t "str_ascii_iterator" (by decide) (fun A' hA=>Walks.strAscii hA _ z t) fun A i s Q E st h=>wpAny_pyIter_striter_ascii st h))
end
section
variable{X:Cx}
theorem Qi(hc:X.calm=true):G5 X (.builtin "all") (fun xs H Q=>∃(p:Addr) (bs:List Bool),xs = [.ref p]/\SqL X.K H p (bs.map V.bl)/\Q (.bl (bs.all id)) H):=by
 intro pins s σ H xs us Q I r h
 obtain⟨p,bs,rfl,hq,q⟩:=h
 obtain⟨u,rfl,ru⟩:=U9 r
 cases ru
 obtain⟨its,rv,pl,hz⟩:=I.list hq
 refine call_all_walk (wpAny_pyIter_list pl.isList ?_)
 have hne:p≠s.heap.objs.size:=by
  obtain⟨o,n,e,_⟩:=pl
  exact Nat.ne_of_lt (Heap.lt_size e)
 refine⟨s.heap.objs.size,_,_,_,_,_,fun i=>bs.getD i true,rfl,Walks.list (A:=X.A.in1) (show X.A.in1.handled=none from I.ok.hd hc) _ p hne its.toArray,⟨⟨_,Heap.get?_push_size _ rfl,rfl,rfl⟩,?_⟩,fun i v s' Q' E' hv q'=>?_,fun h' tk k=>?_⟩
 ·obtain⟨o,n,e,c,d,e2⟩:=pl
  exact⟨o,Heap.get?_push_of_some _ e,c,n,e2⟩
 ·have hb:(bs.map V.bl)[i]?=some (V.bl (bs.getD i true))/\RelV (V.bl (bs.getD i true)) v:=by
   have hv':its[i]?=some v:=by simpa using hv
   have hi:i<its.length:=(List.getElem?_eq_some_iff.mp hv').1
   have hl:=rv.length
   rw[List.length_map]at hl
   have e:(bs.map V.bl)[i]?=some (V.bl (bs.getD i true)):=by
    rw[List.getElem?_map,List.getElem?_eq_getElem (by omega)]
    simp[List.getD_eq_getElem?_getD,List.getElem?_eq_getElem (show i<bs.length by omega)]
   obtain⟨u,hu,ru⟩:=rv.get e
   rw[hv']at hu
   cases hu
   exact⟨e,ru⟩
  cases hb.2
  exact wpAny_truthy_bool q'
 ·have hl:=rv.length
  rw[List.length_map]at hl
  have e:(List.range its.toArray.size).all (fun i=>bs.getD i true)=bs.all id:=by
   rw[List.size_toArray,<-hl]
   rw[Bool.eq_iff_iff,List.all_eq_true,List.all_eq_true]
   constructor
   ·intro z b hb
    obtain⟨i,hi,rfl⟩:=List.mem_iff_getElem.mp hb
    have:=z i (List.mem_range.mpr hi)
    simpa [List.getD_eq_getElem?_getD,List.getElem?_eq_getElem hi] using this
   ·intro z i hi
    have hi':=List.mem_range.mp hi
    have:=z bs[i] (List.getElem_mem hi')
    simpa [List.getD_eq_getElem?_getD,List.getElem?_eq_getElem hi'] using this
  rw[e]
  exact⟨.bl (bs.all id),H,I.kept fun b o eb=>k b o (by
   intro hb
   have:b=s.heap.objs.size:=by simpa using hb
   exact absurd (Heap.lt_size eb) (by rw[this];exact Nat.lt_irrefl _)) (Heap.get?_push_of_some _ eb),rfl,q⟩
theorem Z9:∀{ss:List Str} {us:List Value},Vals (ss.map V.str) us->StrsAre us ss
 | [],_,.nil=>.nil
 | _::_,_,.cons ⟨t,e⟩ r=>by subst e;exact .cons _ _ (Z9 r)
noncomputable def leS(a b:Str):Prop:=¬b.cps.toList<a.cps.toList
theorem l0:G5 X (.builtin "sorted") (fun xs H Q=>∃(p:Addr) (ss:List Str),xs = [.ref p]/\SqL X.K H p (ss.map V.str)/\∀(l:Addr) (ss':List Str),H l=none->ss'.Perm ss->ss'.Pairwise leS->Q (.ref l) (upd H l (.lst (ss'.map V.str)))):=by
 intro pins s σ H xs us Q I r h
 obtain⟨p,ss,rfl,hq,q⟩:=h
 obtain⟨u,rfl,ru⟩:=U9 r
 cases ru
 obtain⟨its,rv,pl,hz⟩:=I.list hq
 have hS:=Z9 rv
 have hl:=rv.length
 refine TS.sorted_gen (collect_list (vs:=its) pl.isList ?_ (by omega))
 refine⟨rfl,by omega,strKind,oneType',fun s2 _=>TS.keys_strs hS,fun out h' e ho k hg=>?_⟩
 have hsz:((s.heap.push (seqObj "list" #[] 0)).update s.heap.objs.size (Obj.mapSeq (· ++ its.toArray))).objs.size=s.heap.objs.size+1:=by rw[Heap.size_update,size_push']
 obtain⟨hp,hs⟩:=ho
 have hm:∀v∈out.toList,∃x t,v = .str x t:=fun v hv=>hS.all v (hp.mem_iff.mp hv)
 have hv:Vals ((out.toList.map strOf).map V.str) out.toList:=by
  have:∀us:List Value,(∀v∈us,∃x t,v = .str x t)->Vals ((us.map strOf).map V.str) us:=by
   intro us
   induction us with
   | nil=>exact fun _=>.nil
   | cons v r ih =>
    intro h
    obtain⟨x,t,rfl⟩:=h v (List.mem_cons_self ..)
    exact .cons ⟨t,rfl⟩ (ih fun u hu=>h u (List.mem_cons_of_mem _ hu))
  exact this _ hm
 have hperm:(out.toList.map strOf).Perm ss:=by
  have:=hp.map strOf
  rwa [hS.strs]at this
 have hpw:(out.toList.map strOf).Pairwise leS:=by
  rw[List.pairwise_map]
  refine(List.Pairwise.and_mem.mp hs).imp fun{u v} ⟨hu,hv',q⟩=>?_
  obtain⟨x,t,rfl⟩:=hm u hu
  obtain⟨y,t',rfl⟩:=hm v hv'
  have q':decide (y.cps.toList<x.cps.toList)=false:=q
  exact of_decide_eq_false q'
 have hk0:∀b o,s.heap.get? b=some o->h'.get? b=some o:=fun b o eb=>k b o (by
  rw[Heap.get?_update_ne _ _ _ _ (Nat.ne_of_lt (Heap.lt_size eb))]
  exact Heap.get?_push_of_some _ eb)
 have hn:H (s.heap.objs.size+1)=none:=I.hok.fresh (Nat.le_succ _)
 have hg':h'.get? (s.heap.objs.size+1)=some (seqObj "list" out e):=by rw[<-hsz];exact hg
 refine⟨.ref (s.heap.objs.size+1),upd H (s.heap.objs.size+1) (.lst ((out.toList.map strOf).map V.str)),?_,by show Value.ref _=_;rw[<-hsz],q _ _ hn hperm hpw⟩
 refine I.laid (t':=s.toks) hk0 (Nat.le_succ _) ⟨?_,out.toList,e,hv,by simpa using hg'⟩
 rw[List.length_map,List.length_map,hp.length_eq]
 omega
end
theorem Dq{α β:Type}(f:α->β){l m:List β}(h:l.Perm m):∀ps:List α,m=ps.map f->∃ps':List α,ps'.Perm ps/\l=ps'.map f:=by
 induction h with
 | nil=>intro ps e;exact⟨ps,.refl _,e⟩
 | cons x _ ih =>
  intro ps e
  cases ps with
  | nil=>cases e
  | cons p ps =>
   rw[List.map_cons]at e
   obtain⟨rfl,e2⟩:=List.cons.inj e
   obtain⟨ps',h1,h2⟩:=ih ps e2
   exact⟨p::ps',.cons _ h1,by rw[List.map_cons,h2]⟩
 | swap x y l =>
  intro ps e
  match ps,e with
  | p::q::ps,e =>
   rw[List.map_cons,List.map_cons]at e
   obtain⟨rfl,e2⟩:=List.cons.inj e
   obtain⟨rfl,e3⟩:=List.cons.inj e2
   exact⟨q::p::ps,.swap _ _ _,by rw[List.map_cons,List.map_cons,e3]⟩
 | trans _ _ ih1 ih2 =>
  intro ps e
  obtain⟨ps1,h1,h2⟩:=ih2 ps e
  obtain⟨ps2,h3,h4⟩:=ih1 ps1 h2
  exact⟨ps2,h3.trans h1,h4⟩
noncomputable abbrev PA2:=Addr×Str×Str
noncomputable def zAw(q:PA2):List Nat×List Nat:=(q.2.1.cps.toList,q.2.2.cps.toList)
noncomputable def leP(q r:PA2):Prop:=TS.pairLt (zAw r) (zAw q)=false
noncomputable def D0(H:Hp)(q:PA2):Prop:=H q.1=some (.tup [.str q.2.1,.str q.2.2])
theorem Ga:∀{ps:List PA2} {us:List Value},Vals (ps.map fun q=>V.ref q.1) us->us=ps.map fun q=>Value.ref q.1
 | [],_,.nil=>rfl
 | _::_,_,.cons r t=>by rw[List.map_cons,Ga t];cases r;rfl
theorem Fu:∀(ps:List PA2),Vals (ps.map fun q=>V.ref q.1) (ps.map fun q=>Value.ref q.1)
 | []=>.nil
 | _::ps=>.cons rfl (Fu ps)
section
variable{X:Cx}
theorem Inv.pairAt{pins:List (Addr×Obj)}{σ:St}{H:Hp}{s:Shared}{q:PA2}(I:Inv X pins σ H s)(h:D0 H q):TS.PairAt s.heap (.ref q.1) q.2.1 q.2.2:=by
 obtain⟨its,rv,⟨o,e,c,n,d⟩,_⟩:=I.tuple (SqT.of h)
 obtain⟨u1,u2,rfl,⟨t,rfl⟩,⟨t',rfl⟩⟩:=rv.two
 exact⟨q.1,o,n,t,t',rfl,e,c,d⟩
theorem Fg:G5 X (.builtin "sorted") (fun xs H Q=>∃(p:Addr) (ps:List PA2),xs = [.ref p]/\SqL X.K H p (ps.map fun q=>V.ref q.1)/\(∀q∈ps,D0 H q) /\
  ∀(l:Addr) (ps':List PA2),H l=none->ps'.Perm ps->ps'.Pairwise leP->Q (.ref l) (upd H l (.lst (ps'.map fun q=>V.ref q.1)))):=by
 intro pins s σ H xs us Q I r h
 obtain⟨p,ps,rfl,hq,hpi,q⟩:=h
 obtain⟨u,rfl,ru⟩:=U9 r
 cases ru
 obtain⟨its,rv,pl,hz⟩:=I.list hq
 have ei:=Ga rv
 have hl:=rv.length
 refine TS.sorted_gen (collect_list (vs:=its) pl.isList ?_ (by omega))
 have hsz:((s.heap.push (seqObj "list" #[] 0)).update s.heap.objs.size (Obj.mapSeq (· ++ its.toArray))).objs.size=s.heap.objs.size+1:=by rw[Heap.size_update,size_push']
 have hk1:∀b o,s.heap.get? b=some o->((s.heap.push (seqObj "list" #[] 0)).update s.heap.objs.size (Obj.mapSeq (· ++ its.toArray))).get? b=some o:=fun b o eb=>by
  rw[Heap.get?_update_ne _ _ _ _ (Nat.ne_of_lt (Heap.lt_size eb))]
  exact Heap.get?_push_of_some _ eb
 have hpa:∀q∈ps,TS.PairAt s.heap (.ref q.1) q.2.1 q.2.2:=fun q hq=>I.pairAt (hpi q hq)
 refine⟨rfl,by omega,TS.pairKind s.heap,tuples' true,fun s2 hE=>TS.keys_pairs (fun v hv=>?_) (fun b o eb=>?_),fun out h' e ho k hg=>?_⟩
 ·rw[ei]at hv
  obtain⟨q,hq,rfl⟩:=List.mem_map.mp hv
  exact⟨_,_,hpa q hq⟩
 ·have hne:b≠((s.heap.push (seqObj "list" #[] 0)).update s.heap.objs.size (Obj.mapSeq (· ++ its.toArray))).objs.size:=by
   rw[hsz]
   exact Nat.ne_of_lt (Nat.lt_succ_of_lt (Heap.lt_size eb))
  exact⟨hne,hE b o hne (hk1 b o eb)⟩
 ·obtain⟨hp,hs⟩:=ho
  rw[ei]at hp
  obtain⟨ps',h1,h2⟩:=Dq (fun q:PA2=>Value.ref q.1) hp ps rfl
  have hpw:ps'.Pairwise leP:=by
   rw[h2,List.pairwise_map]at hs
   refine(List.Pairwise.and_mem.mp hs).imp fun{a b} ⟨ha,hb,z⟩=>?_
   have ka:=(hpa a (h1.mem_iff.mp ha)).key
   have kb:=(hpa b (h1.mem_iff.mp hb)).key
   have z':TS.pairLt ((TS.pairOf s.heap (.ref b.1)).getD ([],[])) ((TS.pairOf s.heap (.ref a.1)).getD ([],[]))=false:=z
   rw[ka,kb]at z'
   exact z'
  have hn:H (s.heap.objs.size+1)=none:=I.hok.fresh (Nat.le_succ _)
  have hg':h'.get? (s.heap.objs.size+1)=some (seqObj "list" out e):=by rw[<-hsz];exact hg
  refine⟨.ref (s.heap.objs.size+1),upd H (s.heap.objs.size+1) (.lst (ps'.map fun q=>V.ref q.1)),?_,by show Value.ref _=_;rw[<-hsz],q _ _ hn h1 hpw⟩
  refine I.laid (t':=s.toks) (fun b o eb=>k b o (hk1 b o eb)) (Nat.le_succ _) ⟨?_,out.toList,e,by rw[h2];exact Fu ps',by simpa using hg'⟩
  rw[List.length_map,h1.length_eq]
  rw[List.length_map]at hz
  exact hz
end
theorem Inv.turnLaid{X:Cx}{pins:List (Addr×Obj)}{σ:St}{H:Hp}{s:Shared}{h':Heap}{t':Nat}{fp:List Addr}{T:Addr}{o:HO}(I:Inv X pins σ H s)(k:∀b ob,b∉fp->s.heap.get? b=some ob->h'.get? b=some ob)
  (hf:∀b∈fp,p8 X pins H b) (hfo:∀b∈fp,∃ob,s.heap.get? b=some ob) (hT:s.heap.objs.size<=T) (new:ObjOk X.prog X.w (upd H T o) h' T o):Inv X pins σ (upd H T o) { s with heap:=h',toks:=t' }:=by
 have hn:=I.hok.fresh hT
 have nT:∀b ob,s.heap.get? b=some ob->b≠T:=fun b ob e=>Nat.ne_of_lt (Nat.lt_of_lt_of_le (Heap.lt_size e) hT)
 have nf:∀b u,H b=some u->b∉fp:=fun b u e hb=>by rw[(hf b hb).1]at e;cases e
 refine I.step (g':=s.gens) (d':=s.drawn) (ch:=fp) (fun b hb=>let⟨_,f1,_,f3,f4,f5⟩:=hf b hb;⟨f3,f1,f4,f5⟩) (fun b ob _ _ hc e _=>k b ob hc e) (fun b ob _ _ hc e _=>⟨ob.slots,k b ob hc e⟩) (fun b ob _ e n=>by rw[B6 (nT b ob e)];exact n)
  (fun b ob hc e=>⟨ob,k b ob hc e⟩) (fun b xs e=>by rw[B6 (B1 e hn)];exact e) (fun b u xs e=>by rw[B6 (B1 e hn)];exact e) (fun b ps e=>⟨#[],by rw[B6 (B1 e hn),e];simp⟩) (fun m hm=>?_) (fun b u e=>?_) I.bare
 ·obtain⟨ob,es,ep,ho,r⟩:=hm
  exact⟨ob,es,ep,k _ ob (fun hb=>(hf _ hb).2.1 rfl) ho,r⟩
 ·by_cases hb:b=T
  ·subst hb;rw[A9]at e;cases e;exact new
  ·rw[B6 hb]at e
   refine(I.hok b u e).stay (fun c v hc q=>k c v ?_ q) (fun c q=>by rw[B6 (B1 q hn)];exact q) fun c xs q=>by rw[B6 (B1 q hn)];exact q
   rcases hc with z | z
   ·rw[z];exact nf b u e
   ·exact nf c _ z
noncomputable def Ite(K:PySem.W.Frag)(a:Addr):It :=
 ⟨fun i H=>∃xs x,SqL K H a xs/\xs[i]?=some x,fun i H v H'=>∃T x,v = .ref T/\H T=none/\H'=upd H T (.tup [.int i,x])/\∀xs,SqL K H a xs->xs[i]?=some x,fun i H=>∃xs,SqL K H a xs/\xs.length=i⟩
theorem Mb{P:Program}{w:World}{K:PySem.W.Frag}{elts:List Expr}{kk:Nat}{tp:Pos}(a it e:Addr)(hei:e≠it):Turn P w K (.Tuple elts kk tp) (Ite K a) [e,it] e (fun i h=>(∃old,IsEnum h e it i old)/\h.IsListIter it a i) where
 mem:=by simp
 obj:=fun i h st b hb=>by
  obtain⟨⟨old,h1⟩,o,h2,c,d⟩:=st
  rcases List.mem_cons.mp hb with rfl | hb
  ·exact⟨_,h1,fun v z=>by cases z⟩
  ·rw[List.mem_singleton.mp hb]
   exact⟨o,h2,fun v z=>by rw[d]at z;cases z⟩
 keep:=fun i h h' st k=>⟨let⟨old,h1⟩:=st.1;⟨old,k e (by simp) _ h1⟩,st.2.at fun o x=>k it (by simp) o x⟩
 item:=by
  intro X hP hw hK hc i pins s σ H E I hf st hg
  subst hP hw hK
  obtain⟨xs,x,hq,hx⟩:=hg
  obtain⟨its,rv,p,hz⟩:=I.list hq
  obtain⟨u,hu,ru⟩:=rv.get hx
  obtain⟨f0,f1,f2,f3,f4,f5⟩:=hf e (by simp)
  obtain⟨g0,g1,g2,g3,g4,g5⟩:=hf it (by simp)
  have hae:a≠e:=fun z=>by
   obtain⟨old,h1⟩:=st.1
   obtain⟨o,n,e1,c,_⟩:=p
   rw[z,h1]at e1
   cases e1
   exact absurd c (by show ¬Value.type "enumerate" = Value.type "list";decide)
  have hai:a≠it:=fun z=>by
   obtain⟨o2,h2,c2,d2⟩:=st.2
   obtain⟨o,n,e1,c,_⟩:=p
   rw[z,h2]at e1
   cases e1
   rw[c2]at c
   exact absurd c (by decide)
  have hi:i<its.toArray.size:=by
   rw[List.size_toArray]
   exact(List.getElem?_eq_some_iff.mp hu).1
  have W:=WalksT.enumerate (prog:=X.prog) (w:=X.w) (A:=X.A) (I.ok.hd hc) e it a hei hae hai its.toArray
  refine W.item i s _ _ hi ⟨st.1,st.2,p.isList⟩ fun T vals h' tk hv hT ht hm k=>?_
  obtain⟨t,x',hx',rfl⟩:=hv
  have:x'=u:=by
   have:its.toArray[i]?=some u:=by simpa using hu
   rw[this]at hx'
   exact(Option.some.inj hx').symm
  subst this
  refine⟨.ref T,rfl,W.go elts kk tp i T _ _ _ hm fun h2 st2 k2=>?_⟩
  have hTn:H T=none:=I.hok.fresh hT
  have hTe:T≠e:=fun z=>W.apart i T h' hm (by simp[z])
  have hTi:T≠it:=fun z=>W.apart i T h' hm (by simp[z])
  have kk2:∀b o,b≠e->b≠it->s.heap.get? b=some o->h2.get? b=some o:=fun b o b1 b2 eb=>k2 b o (by simp[b1,b2]) (k b o (by simp[b1,b2]) eb)
  have hT2:h2.IsTuple T #[.int i t,x']:=by
   obtain⟨o,e1,r⟩:=ht
   exact⟨o,k2 T o (by simp[hTe,hTi]) e1,r⟩
  refine⟨.ref T,upd H T (.tup [.int i,x]),I.turnLaid (fp:=[e,it]) (fun b o hb eb=>kk2 b o (fun z=>hb (by simp[z])) (fun z=>hb (by simp[z])) eb) hf (fun b hb=>?_) hT ⟨?_,[.int i t,x'],.cons ⟨t,rfl⟩ (.cons ru .nil),hT2⟩,rfl,⟨T,x,rfl,hTn,rfl,fun ys hy=>by rw[I.list_inj hy hq];exact hx⟩,⟨st2.1,st2.2.1⟩,fun b hb=>?_⟩
  ·rcases List.mem_cons.mp hb with rfl | hb
   ·obtain⟨old,h1⟩:=st.1
    exact⟨_,h1⟩
   ·rw[List.mem_singleton.mp hb]
    obtain⟨o,h1,_⟩:=st.2
    exact⟨o,h1⟩
  ·show 2<=sizeLine
   decide
  ·rcases List.mem_cons.mp hb with rfl | hb
   ·rw[B6 (Ne.symm hTe)];exact f0
   ·rw[List.mem_singleton.mp hb,B6 (Ne.symm hTi)];exact g0
 done:=by
  intro X hP hw hK hc i pins s σ H E I hf st hg
  subst hP hw hK
  obtain⟨xs,hq,hx⟩:=hg
  obtain⟨its,rv,p,hz⟩:=I.list hq
  obtain⟨f0,f1,f2,f3,f4,f5⟩:=hf e (by simp)
  obtain⟨g0,g1,g2,g3,g4,g5⟩:=hf it (by simp)
  have hae:a≠e:=fun z=>by
   obtain⟨old,h1⟩:=st.1
   obtain⟨o,n,e1,c,_⟩:=p
   rw[z,h1]at e1
   cases e1
   exact absurd c (by show ¬Value.type "enumerate" = Value.type "list";decide)
  have hai:a≠it:=fun z=>by
   obtain⟨o2,h2,c2,d2⟩:=st.2
   obtain⟨o,n,e1,c,_⟩:=p
   rw[z,h2]at e1
   cases e1
   rw[c2]at c
   exact absurd c (by decide)
  have W:=WalksT.enumerate (prog:=X.prog) (w:=X.w) (A:=X.A) (I.ok.hd hc) e it a hei hae hai its.toArray
  have hl:=rv.length
  have hi:i=its.toArray.size:=by rw[List.size_toArray];omega
  rw[hi]at st
  refine W.done s _ _ ⟨st.1,st.2,p.isList⟩ fun h' tk k=>⟨rfl,?_⟩
  have I1:=I.step (h':=h') (H':=H) (t':=tk) (g':=s.gens) (d':=s.drawn) (ch:=[e,it]) (fun b hb=>let⟨_,f1,_,f3,f4,f5⟩:=hf b hb;⟨f3,f1,f4,f5⟩) (fun b ob _ _ hc e _=>k b ob hc e) (fun b ob _ _ hc e _=>⟨ob.slots,k b ob hc e⟩) (fun _ _ _ _ n=>n)
   (fun b ob hc e=>⟨ob,k b ob hc e⟩) (fun _ _ e=>e) (fun _ _ _ e=>e) (fun b ps e=>⟨#[],by rw[e];simp⟩) (fun m hm=>?_) (fun b u eb=>?_) I.bare
  ·exact I1
  ·obtain⟨ob,es,ep,ho,r⟩:=hm
   exact⟨ob,es,ep,k _ ob (fun hb=>(hf _ hb).2.1 rfl) ho,r⟩
  ·have nf:∀b u,H b=some u->b∉[e,it]:=fun b u e hb=>by rw[(hf b hb).1]at e;cases e
   refine(I.hok b u eb).stay (fun c v hc q=>k c v ?_ q) (fun _ q=>q) fun _ _ q=>q
   rcases hc with z | z
   ·rw[z];exact nf b u eb
   ·exact nf c _ z
 self:=fun A i s Q E st h=>by
  obtain⟨old,he⟩:=st.1
  exact wpAny_pyIter_enum he h
section
variable{X:Cx}{elts:List Expr}{kk:Nat}{tp:Pos}
noncomputable def Vi(K:PySem.W.Frag)(ta:TA):TI:=fun σ H R=>ta σ H fun vs H1=>∃a xs,vs = [.ref a]/\SqL K H1 a xs/\R (Ite K a) H1
theorem Tn{a:Expr}{ta:TA}{p pos:Pos}(hg:Gl X "enumerate")(hm:X.mg "enumerate" = none)(hv:bootBuiltins "enumerate" = some (.type "enumerate"))(ha:PA X [a] ta)(hs:starEach [a] X.env = [(false,eval a X.env)]:=by rfl):PI X (.Tuple elts kk tp) (.Call (.Name "enumerate" p) [a] [] pos) (Vi X.K ta):=by
 intro pins s σ H R I h
 refine Call_ (g9 I hg hm hv (PyProof.Rows.callWith_type1 (thn (ha pos pins s σ H _ I h) fun us s1 ⟨vs,H1,I1,r1,q1⟩=>?_) hs rfl))
 obtain⟨l,xs,e,hq,q⟩:=q1
 subst e
 obtain⟨u,rfl,ru⟩:=U9 r1
 cases ru
 obtain⟨its,rv,pl,hz⟩:=I1.list hq
 refine call_enumerate_list pl.isList fun h' he hit hsz k=>wpAny_pyIter_enum he ?_
 have I2:Inv X pins σ H1 { s1 with heap:=h' }:=I1.kept (t':=s1.toks) k
 refine⟨s1.heap.objs.size+1,[s1.heap.objs.size+1,s1.heap.objs.size],_,_,H1,rfl,I2,Mb l s1.heap.objs.size (s1.heap.objs.size+1) (Nat.succ_ne_self _),⟨⟨_,he⟩,hit⟩,fun b hb=>?_,q⟩
 rcases List.mem_cons.mp hb with z | hb
 ·rw[z]
  exact I1.fpOk (Nat.le_succ _) (I1.hok.fresh (Nat.le_succ _))
 ·rw[List.mem_singleton.mp hb]
  exact I1.fpOk (Nat.le_refl _) (I1.hok.fresh (Nat.le_refl _))
end
end L2
namespace ST
open PySem
noncomputable def stp(mask i:Nat):Nat:=(5*i+1) %(mask+1)
noncomputable def itr(mask:Nat):Nat->Nat->Nat
 | 0,i=>i
 | t+1,i=>itr mask t (stp mask i)
noncomputable def orb(mask:Nat):Nat->Nat->List Nat
 | 0,_=>[]
 | n+1,i=>i::orb mask n (stp mask i)
theorem Hs(mask a b i:Nat):itr mask (a+b) i=itr mask b (itr mask a i):=by
 induction a generalizing i with
 | zero=>rw[Nat.zero_add];rfl
 | succ a ih=>rw[Nat.succ_add];exact ih (stp mask i)
theorem Ky{mask j:Nat}:∀{n i:Nat},j∈orb mask n i->∃t,t<n/\itr mask t i=j
 | 0,_,h=>by simp[orb]at h
 | n+1,i,h=>by
  rcases List.mem_cons.mp h with rfl | h
  ·exact⟨0,by omega,rfl⟩
  ·obtain⟨t,h1,h2⟩:=Ky h
   exact⟨t+1,by omega,h2⟩
noncomputable def Msk(mask:Nat):Prop:=mask=7\/mask=31\/mask=127\/mask=511
noncomputable def full(mask:Nat):Bool:=(List.range (mask+1)).all (fun j=>(orb mask (mask+1) 0).contains j)&&itr mask (mask+1) 0 == 0
theorem zAg:full 7=true:=by decide +kernel
theorem Xc:full 31=true:=by decide +kernel
theorem Uk:full 127=true:=by decide +kernel
theorem Uq:full 511=true:=by decide +kernel
theorem Msk.full{mask:Nat}(h:Msk mask):full mask=true:=by
 rcases h with rfl | rfl | rfl | rfl
 ·exact zAg
 ·exact Xc
 ·exact Uk
 ·exact Uq
theorem cyc{mask:Nat}(h:Msk mask){i j:Nat}(hi:i<=mask)(hj:j<=mask):∃t,t<=mask/\itr mask t i=j:=by
 have f:=h.full
 unfold ST.full at f
 rw[Bool.and_eq_true,List.all_eq_true]at f
 obtain⟨f1,f2⟩:=f
 have f2:itr mask (mask+1) 0=0:=by simpa using f2
 have at_:∀k,k<=mask->∃t,t<mask+1/\itr mask t 0=k:=fun k hk=>Ky (by simpa using f1 k (List.mem_range.mpr (by omega)))
 obtain⟨a,ha,ea⟩:=at_ i hi
 obtain⟨b,hb,eb⟩:=at_ j hj
 by_cases hab:a<=b
 ·refine⟨b-a,by omega,?_⟩
  rw[<-ea,<-Hs,show a +(b-a)=b by omega,eb]
 ·refine⟨mask+1-a+b,by omega,?_⟩
  rw[<-ea,<-Hs,show a +(mask+1-a+b) =(mask+1)+b by omega,Hs,f2,eb]
noncomputable def lps(mask:Nat):Nat->Nat×Nat->Nat×Nat
 | 0,x=>x
 | t+1,x=>lps mask t (SetTable.leap mask x.1 x.2)
theorem Uy(mask a b:Nat)(x:Nat×Nat):lps mask (a+b) x=lps mask b (lps mask a x):=by
 induction a generalizing x with
 | zero=>rw[Nat.zero_add];rfl
 | succ a ih=>rw[Nat.succ_add];exact ih _
theorem Ja(mask:Nat):∀(t:Nat) (x:Nat×Nat),(lps mask t x).2=x.2 / 32^t
 | 0,x=>by simp[lps]
 | t+1,x=>by
  show(lps mask t (SetTable.leap mask x.1 x.2)).2=_
  rw[Ja mask t]
  show x.2 / 32 / 32^t=_
  rw[Nat.div_div_eq_div_mul,Nat.pow_succ,Nat.mul_comm]
theorem Rz(mask:Nat):∀(t:Nat) (x:Nat×Nat),x.1<=mask->(lps mask t x).1<=mask
 | 0,_,h=>h
 | t+1,x,_=>Rz mask t _ (Nat.lt_succ_iff.mp (Nat.mod_lt _ (Nat.succ_pos _)))
theorem Jk(mask:Nat):∀(t i:Nat),lps mask t (i,0) =(itr mask t i,0)
 | 0,_=>rfl
 | t+1,i=>by
  show lps mask t ((i*5+1+0 / 32) %(mask+1),0 / 32)=_
  rw[Nat.zero_div,Nat.add_zero,Jk mask t,Nat.mul_comm]
  rfl
theorem Oa{mask:Nat}(h:Msk mask){i j p:Nat}(hi:i<=mask)(hj:j<=mask)(hp:p<2^64):∃t,t<=mask+13/\(lps mask t (i,p)).1=j:=by
 have e2:(lps mask 13 (i,p)).2=0:=by
  rw[Ja]
  exact Nat.div_eq_of_lt (Nat.lt_of_lt_of_le hp (by decide))
 obtain⟨t,ht,et⟩:=cyc h (Rz mask 13 (i,p) hi) hj
 refine⟨13+t,by omega,?_⟩
 rw[Uy]
 have:lps mask 13 (i,p) =((lps mask 13 (i,p)).1,0):=Prod.ext rfl e2
 rw[this,Jk]
 exact et
noncomputable def adv(t:SetTable):Nat->SetTable.Probe->SetTable.Probe
 | 0,p=>p
 | n+1,p=>adv t n (t.advance p)
theorem Mh(t:SetTable)(a b:Nat)(p:SetTable.Probe):adv t (a+b) p=adv t b (adv t a p):=by
 induction a generalizing p with
 | zero=>rw[Nat.zero_add];rfl
 | succ a ih=>rw[Nat.succ_add];exact ih _
theorem Os(t:SetTable):∀(m:Nat) (p:SetTable.Probe),p.more=m->∃p',adv t (m+1) p=p'/\p'.i =(SetTable.leap t.mask p.i p.perturb).1/\p'.perturb =(SetTable.leap t.mask p.i p.perturb).2/\p'.j=p'.i/\p'.more=SetTable.runEnd t.mask p'.i-p'.i/\p'.dummy=p.dummy
 | 0,p,h=>by
  have ea:t.advance p ={ p with j:=(SetTable.leap t.mask p.i p.perturb).1,more:=SetTable.runEnd t.mask (SetTable.leap t.mask p.i p.perturb).1-(SetTable.leap t.mask p.i p.perturb).1,i:=(SetTable.leap t.mask p.i p.perturb).1,perturb:=(SetTable.leap t.mask p.i p.perturb).2 }:=by
   unfold SetTable.advance
   rw[if_neg (by omega)]
  refine⟨t.advance p,rfl,?_⟩
  rw[ea]
  exact⟨rfl,rfl,rfl,rfl,rfl⟩
 | m+1,p,h=>by
  have ea:t.advance p ={ p with j:=p.j+1,more:=p.more-1 }:=by unfold SetTable.advance;rw[if_pos (by omega)]
  obtain⟨p',h1,h2⟩:=Os t m (t.advance p) (by rw[ea];show p.more-1=m;omega)
  rw[ea]at h2
  exact⟨p',h1,h2⟩
theorem Xl(mask i:Nat):SetTable.runEnd mask i-i<=9:=by unfold SetTable.runEnd;split<;>omega
theorem Nr(t:SetTable):∀(n:Nat) (p:SetTable.Probe),p.j=p.i->p.more=SetTable.runEnd t.mask p.i-p.i->∃k,k<=10*n/\(adv t k p).j =(lps t.mask n (p.i,p.perturb)).1
 | 0,p,h1,_=>⟨0,by omega,h1⟩
 | n+1,p,h1,h2=>by
  obtain⟨p',e,a1,a2,a3,a4,_⟩:=Os t p.more p rfl
  obtain⟨k,hk,ek⟩:=Nr t n p' a3 a4
  have:=Xl t.mask p.i
  refine⟨p.more+1+k,by omega,?_⟩
  rw[Mh,e,ek,a1,a2]
  rfl
theorem Fw(t:SetTable):∀(n:Nat) (p:SetTable.Probe),(adv t n p).dummy=p.dummy
 | 0,_=>rfl
 | n+1,p=>by
  show(adv t n (t.advance p)).dummy=_
  rw[Fw t n]
  unfold SetTable.advance
  split<;>rfl
theorem Lk{t:SetTable}(hm:Msk t.mask)(h:Int){j:Nat}(hj:j<=t.mask):∃n,n<10*SetTable.turns t.mask/\(adv t n (t.probeStart h)).j=j:=by
 have hb:SetTable.bits h<2^64:=by
  unfold SetTable.bits
  have h1:0<=h %(2^64:Int):=Int.emod_nonneg _ (by decide)
  have h2:h %(2^64:Int)<2^64:=Int.emod_lt_of_pos _ (by decide)
  omega
 have hi:SetTable.bits h %(t.mask+1)<=t.mask:=Nat.lt_succ_iff.mp (Nat.mod_lt _ (Nat.succ_pos _))
 obtain⟨n,hn,en⟩:=Oa hm hi hj hb
 obtain⟨k,hk,ek⟩:=Nr t n (t.probeStart h) rfl rfl
 refine⟨k,by unfold SetTable.turns;omega,ek.trans en⟩
theorem Z8{t:SetTable}(hd:t.dummies = #[])(j:Nat):t.slot j = .empty\/∃i,t.slot j = .live i/\t.place[i]?=some j:=by
 unfold SetTable.slot
 dsimp only
 by_cases h:(t.place[SetTable.below t.place j]? == some j)=true
 ·rw[if_pos h]
  exact .inr ⟨_,rfl,by simpa using h⟩
 ·rw[if_neg h]
  have:SetTable.has t.dummies j=false:=by
   rw[hd]
   unfold SetTable.has
   simp
  rw[this]
  exact .inl rfl
theorem Kp{t:SetTable}(hd:t.dummies = #[])(hs:t.place.size<=t.mask):∃j,j<=t.mask/\t.slot j = .empty:=by
 by_cases h:∃j,j<=t.mask/\t.slot j = .empty
 ·exact h
 ·exfalso
  have all:∀j∈List.range (t.mask+1),j∈t.place.toList:=fun j hj=>by
   have hj':j<=t.mask:=by have:=List.mem_range.mp hj;omega
   rcases Z8 hd j with e | ⟨i,_,e⟩
   ·exact absurd ⟨j,hj',e⟩ h
   ·exact List.mem_of_getElem? (by rw[Array.getElem?_toList];exact e)
  have:=(List.nodup_range (n:=t.mask+1)).length_le_of_subset all
  rw[List.length_range,Array.length_toList]at this
  omega
theorem Rq{t:SetTable}(hd:t.dummies = #[])(hashAt:Nat->Int)(h:Int)(p:SetTable.Probe)(hpd:p.dummy=none):∀(k m n fuel:Nat),m+k=n->t.slot (adv t n p).j = .empty->k<fuel ->
  (∃j,SetTable.probe.go t hashAt h fuel (adv t m p)=some (.empty j none)/\t.slot j = .empty) \/
   ∃l i,m<=l/\l<n/\t.slot (adv t l p).j = .live i/\hashAt i=h/\SetTable.probe.go t hashAt h fuel (adv t m p)=some (.candidate (adv t l p).j i (adv t (l+1) p))
 | k,m,n,0,_,_,hf=>absurd hf (Nat.not_lt_zero _)
 | k,m,n,fuel+1,e,he,hf=>by
  have hdm:(adv t m p).dummy=none:=(Fw t m p).trans hpd
  have nx:adv t (m+1) p=t.advance (adv t m p):=Mh t m 1 p
  rcases Z8 hd (adv t m p).j with es | ⟨i,es,ep⟩
  ·refine .inl ⟨(adv t m p).j,?_,es⟩
   unfold SetTable.probe.go
   rw[es,hdm]
  ·have hk:k≠0:=by
    rintro rfl
    have:m=n:=by omega
    subst this
    rw[he]at es;cases es
   by_cases hh:hashAt i=h
   ·refine .inr ⟨m,i,Nat.le_refl _,by omega,es,hh,?_⟩
    unfold SetTable.probe.go
    rw[es]
    dsimp only
    rw[if_pos (by simpa using hh),nx]
   ·have eg:SetTable.probe.go t hashAt h (fuel+1) (adv t m p)=SetTable.probe.go t hashAt h fuel (adv t (m+1) p):=by
     conv=>lhs;unfold SetTable.probe.go
     rw[es]
     dsimp only
     rw[if_neg (by simpa using hh),nx]
    rcases Rq hd hashAt h p hpd (k-1) (m+1) n fuel (by omega) he (by omega)with⟨j,h1,h2⟩ | ⟨l,i',h1,h2,h3,h4,h5⟩
    ·exact .inl ⟨j,eg.trans h1,h2⟩
    ·exact .inr ⟨l,i',by omega,h2,h3,h4,eg.trans h5⟩
theorem Cj{α β:Type}{f g:α->Option β}:∀{l:List α},(∀x∈l,f x=g x)->l.filterMap f=l.filterMap g
 | [],_=>rfl
 | a::r,h=>by
  have h1:=h a (List.mem_cons_self ..)
  have h2:=Cj (l:=r) fun x hx=>h x (List.mem_cons_of_mem _ hx)
  rw[List.filterMap_cons,List.filterMap_cons,h1,h2]
theorem Sn{α:Type}{f g:Nat->Option α}{j:Nat}{k:α}(hg:g j=some k)(hf:f j=none):∀{l:List Nat},l.Nodup->j∈l->(∀i,i≠j->g i=f i)->(l.filterMap g).Perm (k::l.filterMap f)
 | [],_,h,_=>by simp at h
 | i::r,nd,h,he=>by
  obtain⟨n1,n2⟩:=List.nodup_cons.mp nd
  by_cases e:i=j
  ·subst e
   have er:r.filterMap g=r.filterMap f:=Cj fun x hx=>he x fun z=>n1 (z▸hx)
   rw[List.filterMap_cons_some hg,List.filterMap_cons_none hf,er]
  ·have hr:=Sn hg hf n2 ((List.mem_cons.mp h).resolve_left fun z=>e z.symm) he
   cases ef:f i with
   | none=>rw[List.filterMap_cons_none ((he i e).trans ef),List.filterMap_cons_none ef];exact hr
   | some b =>
    rw[List.filterMap_cons_some ((he i e).trans ef),List.filterMap_cons_some ef]
    exact(List.Perm.cons b hr).trans (List.Perm.swap _ _ _)
noncomputable def ocs(mask:Nat)(ow:Array (Option Nat)):List Nat:=(List.range (mask+1)).filterMap fun j=>ow.getD j none
structure LI(mask:Nat)(ow:Array (Option Nat))(k:Nat):Prop where
 sz:ow.size=mask+1
 pm:(ocs mask ow).Perm (List.range k)
theorem Ow{mask:Nat}{ow:Array (Option Nat)}{j:Nat}(hj:ow[j]?=some none):∀(t fuel i p:Nat),(lps mask t (i,p)).1=j->t<fuel->∃j',SetTable.layClean.free mask ow fuel i p=some j'/\ow[j']?=some none
 | t,0,_,_,_,h=>absurd h (Nat.not_lt_zero _)
 | t,fuel+1,i,p,e,h=>by
  unfold SetTable.layClean.free
  cases q:(List.range (SetTable.runEnd mask i+1-i)).find? fun k=>(ow.getD (i+k) (some 0)).isNone with
  | some k =>
   refine⟨i+k,rfl,?_⟩
   have:=List.find?_some q
   rw[Array.getD_eq_getD_getElem?]at this
   cases g:ow[i+k]? with
   | none=>rw[g]at this;simp at this
   | some z=>rw[g]at this;simp at this;rw[this]
  | none =>
   dsimp only
   cases t with
   | zero =>
    exfalso
    have e':i=j:=e
    subst e'
    have hr:0∈List.range (SetTable.runEnd mask i+1-i):=List.mem_range.mpr (by unfold SetTable.runEnd;split<;>omega)
    have:=List.find?_eq_none.mp q 0 hr
    rw[Array.getD_eq_getD_getElem?,Nat.add_zero,hj]at this
    simp at this
   | succ t=>exact Ow hj t fuel _ _ e (by omega)
theorem LI.room{mask:Nat}{ow:Array (Option Nat)}{k:Nat}(h:LI mask ow k)(hk:k<=mask):∃j,j<=mask/\ow[j]?=some none:=by
 by_cases q:∃j,j<=mask/\ow[j]?=some none
 ·exact q
 ·exfalso
  have all:∀j∈List.range (mask+1),∃v,ow.getD j none=some v:=fun j hj=>by
   have hj':j<ow.size:=by rw[h.sz];exact List.mem_range.mp hj
   cases e:ow[j]? with
   | none=>rw[Array.getElem?_eq_none_iff]at e;omega
   | some v =>
    cases v with
    | none=>exact absurd ⟨j,by have:=List.mem_range.mp hj;omega,e⟩ q
    | some v=>exact⟨v,by rw[Array.getD_eq_getD_getElem?,e];rfl⟩
  have hl:∀l:List Nat,(∀j∈l,∃v,ow.getD j none=some v)->(l.filterMap fun j=>ow.getD j none).length=l.length:=by
   intro l
   induction l with
   | nil=>intro _;rfl
   | cons j r ih =>
    intro ha
    obtain⟨v,hv⟩:=ha j (List.mem_cons_self ..)
    rw[List.filterMap_cons_some (f:=fun j=>ow.getD j none) hv,List.length_cons,List.length_cons,ih fun x hx=>ha x (List.mem_cons_of_mem _ hx)]
  have:=h.pm.length_eq
  unfold ocs at this
  rw[hl _ all,List.length_range,List.length_range]at this
  omega
theorem LI.put{mask:Nat}{ow:Array (Option Nat)}{k j:Nat}(h:LI mask ow k)(hj:ow[j]?=some none):LI mask (ow.setIfInBounds j (some k)) (k+1):=by
 have hlt:j<ow.size:=by
  obtain⟨h1,_⟩:=Array.getElem?_eq_some_iff.mp hj
  exact h1
 refine⟨by rw[Array.size_setIfInBounds];exact h.sz,?_⟩
 have p:=Sn (f:=fun j=>ow.getD j none) (g:=fun i=>(ow.setIfInBounds j (some k)).getD i none) (j:=j) (k:=k) (by rw[Array.getD_eq_getD_getElem?,Array.getElem?_setIfInBounds_self_of_lt hlt];rfl) (by rw[Array.getD_eq_getD_getElem?,hj];rfl)
  (l:=List.range (mask+1)) List.nodup_range (List.mem_range.mpr (by rw[<-h.sz];exact hlt)) fun i hi=>by
   rw[Array.getD_eq_getD_getElem?,Array.getElem?_setIfInBounds_ne (Ne.symm hi),<-Array.getD_eq_getD_getElem?]
 have e:List.range (k+1)=List.range k ++ [k]:=List.range_succ
 refine p.trans ?_
 rw[e]
 exact(List.Perm.cons k h.pm).trans (List.perm_append_comm (l₁:=[k]))
theorem Tw(h:Int):SetTable.bits h<2^64:=by
 unfold SetTable.bits
 have h1:0<=h %(2^64:Int):=Int.emod_nonneg _ (by decide)
 have h2:h %(2^64:Int)<2^64:=Int.emod_lt_of_pos _ (by decide)
 omega
theorem Ry{mask:Nat}(hm:Msk mask):∀(hs:List Int) (ow:Array (Option Nat)) (k:Nat),LI mask ow k->k+hs.length<=mask->∃ow',(hs.foldl (init:=some (ow,k)) fun acc h=>do
   let(owner,k) <-acc
   let j <-SetTable.layClean.free mask owner (SetTable.turns mask) (SetTable.bits h %(mask+1)) (SetTable.bits h)
   pure (owner.setIfInBounds j (some k),k+1))=some (ow',k+hs.length)/\LI mask ow' (k+hs.length)
 | [],ow,k,h,_=>⟨ow,rfl,h⟩
 | x::r,ow,k,h,hk=>by
  rw[List.length_cons]at hk
  obtain⟨j,hj,ej⟩:=h.room (by omega)
  obtain⟨t,ht,et⟩:=Oa hm (i:=SetTable.bits x %(mask+1)) (j:=j) (Nat.lt_succ_iff.mp (Nat.mod_lt _ (Nat.succ_pos _))) hj (Tw x)
  obtain⟨j',h1,h2⟩:=Ow ej t (SetTable.turns mask) _ _ et (by unfold SetTable.turns;omega)
  obtain⟨ow',h3,h4⟩:=Ry hm r (ow.setIfInBounds j' (some k)) (k+1) (h.put h2) (by omega)
  refine⟨ow',?_,by rw[List.length_cons,show k +(r.length+1)=k+1+r.length by omega];exact h4⟩
  rw[List.foldl_cons]
  show List.foldl _ ((SetTable.layClean.free mask ow (SetTable.turns mask) (SetTable.bits x %(mask+1)) (SetTable.bits x)).bind fun j=>some (ow.setIfInBounds j (some k),k+1)) r=_
  rw[h1]
  show List.foldl _ (some (ow.setIfInBounds j' (some k),k+1)) r=_
  rw[List.length_cons,show k +(r.length+1)=k+1+r.length by omega]
  exact h3
theorem Uj{mask:Nat}(hm:Msk mask)(finger moves:Nat)(led plain:Bool)(hs:Array Int)(hn:hs.size<=mask) :
  ∃place order,SetTable.laid mask finger moves led plain hs=some ({ mask,place,dummies:=#[],finger,led,moves,plain },order)/\place.size=hs.size/\order.toList.Perm (List.range hs.size):=by
 have h0:LI mask (Array.replicate (mask+1) none) 0:=by
  refine⟨Array.size_replicate,?_⟩
  have:ocs mask (Array.replicate (mask+1) none) = []:=by
   unfold ocs
   rw[List.filterMap_eq_nil_iff]
   intro j hj
   rw[Array.getD_eq_getD_getElem?,Array.getElem?_replicate]
   split<;>rfl
  rw[this]
  exact List.Perm.refl _
 obtain⟨ow,h1,h2⟩:=Ry hm hs.toList _ 0 h0 (by rw[Array.length_toList];omega)
 rw[Nat.zero_add,Array.length_toList]at h1 h2
 have hc:SetTable.layClean mask hs=some ow:=by
  unfold SetTable.layClean
  rw[<-Array.foldl_toList,h1]
  rfl
 have e2:((List.range (mask+1)).filterMap fun j=>(ow.getD j none).map (j,·)).map (·.2)=ocs mask ow:=by
  unfold ocs
  rw[List.map_filterMap]
  refine Cj fun j _=>?_
  cases ow.getD j none<;>rfl
 refine⟨(((List.range (mask+1)).filterMap fun j=>(ow.getD j none).map (j,·)).map (·.1)).toArray,(((List.range (mask+1)).filterMap fun j=>(ow.getD j none).map (j,·)).map (·.2)).toArray,?_,?_,?_⟩
 ·unfold SetTable.laid
  rw[hc]
  rfl
 ·rw[List.size_toArray,List.length_map,<-List.length_map (f:=(·.2)),e2,h2.pm.length_eq,List.length_range]
 ·show(((List.range (mask+1)).filterMap fun j=>(ow.getD j none).map (j,·)).map (·.2)).Perm _
  rw[e2]
  exact h2.pm
theorem Qc{es:Array (Int×Value)}{order:Array Nat}(h:order.toList.Perm (List.range es.size)):(order.filterMap (es[·]?)).toList.Perm es.toList:=by
 rw[Array.toList_filterMap]
 refine(h.filterMap _).trans (List.Perm.of_eq ?_)
 refine List.ext_getElem? fun t=>?_
 have:(List.range es.size).filterMap (fun x=>es[x]?)=es.toList:=by
  have:∀(l:List (Int×Value)),(List.range l.length).filterMap (fun x=>l[x]?)=l:=by
   intro l
   induction l with
   | nil=>rfl
   | cons a r ih =>
    rw[List.length_cons,List.range_succ_eq_map,List.filterMap_cons_some (by rfl:(a::r)[0]?=some a),List.filterMap_map]
    congr 1
  have q:=this es.toList
  rw[Array.length_toList]at q
  simpa using q
 rw[this]
section
variable{prog:Program}{w:World}{K:Type}[DecidableEq K]{knd:KeyKind prog w K}{A:Around}{E:Value->Shared->Prop}{s:Shared}
structure Tab(t:SetTable)(n:Nat):Prop where
 dm:t.dummies = #[]
 pl:t.place.size=n
 mm:Msk t.mask
 rm:n*5<t.mask*3
theorem Tab.fits{t:SetTable}{n:Nat}(h:Tab t n):t.fits n=true:=by
 have:=h.rm
 have:=h.pl
 unfold SetTable.fits SetTable.fill
 rw[h.dm]
 simp
 omega
theorem Tab.odd{t:SetTable}{n:Nat}(h:Tab t n):t.gaveWay=false:=by
 unfold SetTable.gaveWay
 rcases h.mm with e | e | e | e<;>rw[e]<;>rfl
noncomputable def Els(knd:KeyKind prog w K)(es:Array (Int×Value))(ks:List (List K×Addr)):Prop:=es.toList.Perm (ks.map fun q=>((tupleKind knd).hash q.1,Value.ref q.2))
noncomputable def TSet(knd:KeyKind prog w K)(h:Heap)(a:Addr)(ks:List (List K×Addr)):Prop:=∃o es ep t,h.get? a=some o/\o.ExactSet/\o.data = .set es ep t/\Els knd es ks/\Tab t es.size
theorem Els.get{es:Array (Int×Value)}{ks:List (List K×Addr)}(h:Els knd es ks){i:Nat}{e:Int×Value}(he:es[i]?=some e):∃k p,(k,p)∈ks/\e =((tupleKind knd).hash k,.ref p):=by
 have:e∈es.toList:=List.mem_of_getElem? (by rw[Array.getElem?_toList];exact he)
 obtain⟨q,hq,rfl⟩:=List.mem_map.mp (h.mem_iff.mp this)
 exact⟨q.1,q.2,hq,rfl⟩
theorem r8{β:Type}{c:β}{f:Value->β->Sem (ForInStep β)}:∀{l:List Value},(∀y∈l,f y c=pure (.yield c))->forIn l c f=pure c
 | [],_=>List.forIn_nil
 | a::r,h=>by
  rw[List.forIn_cons,h a (List.mem_cons_self ..),pure_bind]
  exact r8 fun y hy=>h y (List.mem_cons_of_mem _ hy)
theorem Ex{ks:List K}{vs:List Value}(h:ItemsAre knd ks vs):∀v∈vs,∃x,knd.is x v=true:=by
 induction h with
 | nil=>intro v hv;simp at hv
 | cons h1 _ ih =>
  intro v hv
  rcases List.mem_cons.mp hv with rfl | hv
  ·exact⟨_,h1⟩
  ·exact ih v hv
noncomputable def Flat(knd:KeyKind prog w K):Prop:=∀v,(∃x,knd.is x v=true)->carriedByValue v=true
theorem Flat.no{v:Value}(hF:Flat knd)(h:∃x,knd.is x v=true)(d:Nat):ofAClassStatement d v=pure false:=by
 have:=hF v h
 cases v<;>first
  | (cases d<;>rfl)
  | (exact absurd this (by intro z;cases z))
theorem Rw{k:List K}{p:Addr}{Q:Bool->Shared->Prop}(hF:Flat knd)(hk:(tupleKind knd).is s.heap k p)(h:Q false s):wpAny (model prog w) A (ofAClassStatement 8 (.ref p)) Q E s:=by
 obtain⟨o,items,n,ho,hc,hd,hi⟩:=hk
 have hT:s.TypeIs (.ref p) "tuple":=⟨o,ho,hc⟩
 unfold ofAClassStatement
 refine wpAny_bind (wpAny_typeOf hT ?_)
 dsimp only
 rw[if_pos (by rfl)]
 refine wpAny_bind (wpAny_pure ?_)
 simp only[Bool.not_true,Bool.false_eq_true,if_false]
 refine wpAny_bind (wpAny_seqItems ho hd ?_)
 dsimp only
 rw[<-Array.forIn_toList,r8 fun y hy=>by rw[hF.no (Ex hi y hy)];rfl]
 exact wpAny_bind (wpAny_pure (wpAny_pure h))
theorem Xo{kx:List K}{px:Addr}{Q:Bool->Shared->Prop}(hF:Flat knd)(hx:(tupleKind knd).is s.heap kx px)(h:Q false s){l:List Value}(hl:∀v∈l,∃k p,v = .ref p/\(tupleKind knd).is s.heap k p) :
  wpAny (model prog w) A (searchCouldBeSeen (.ref px) l) Q E s:=by
 unfold searchCouldBeSeen
 refine wpAny_bind (wpAny_forIn_list _ (fun rest c s'=>s'=s/\c =(none,())/\∀v∈rest,v∈l) _ ?_ ?_ l _ ⟨rfl,rfl,fun _ h=>h⟩)
 ·rintro v rest c s' ⟨rfl,rfl,hr⟩
  obtain⟨k,p,rfl,hk⟩:=hl v (hr v (List.mem_cons_self ..))
  dsimp only
  have hc:carriedByValue (Value.ref px)=false:=rfl
  rw[hc,Bool.false_and,Bool.or_false]
  split
  ·exact wpAny_pure ⟨rfl,rfl,fun u hu=>hr u (List.mem_cons_of_mem _ hu)⟩
  ·refine wpAny_bind ((tupleKind knd).quiet hx ?_)
   simp only[Bool.not_true,Bool.false_eq_true,if_false]
   refine wpAny_bind ((tupleKind knd).quiet hk ?_)
   simp only[Bool.not_true,Bool.false_eq_true,if_false]
   refine wpAny_bind (Rw hF hx ?_)
   simp only[Bool.false_eq_true,if_false]
   refine wpAny_bind (Rw hF hk ?_)
   simp only[Bool.false_eq_true,if_false]
   exact wpAny_pure ⟨rfl,rfl,fun u hu=>hr u (List.mem_cons_of_mem _ hu)⟩
 ·rintro c s' ⟨rfl,rfl,_⟩
  exact wpAny_pure h
theorem Ra(t:SetTable):t.sameMemory t.moves t.mask=some true:=by
 unfold SetTable.sameMemory
 simp
theorem Gm{a:Addr}{o:Obj}{es:Array (Int×Value)}{ep:Nat}{t:SetTable}{ks:List (List K×Addr)}{kx:List K}{px:Addr}{adding:Bool}{Q:SetFound->Shared->Prop}{n:Nat}
  (hr:(tupleKind knd).room A) (hF:Flat knd) (ho:s.heap.get? a=some o) (hd:o.data = .set es ep t) (hE:Els knd es ks) (hT:Tab t es.size)
  (hks:∀q∈ks,(tupleKind knd).is s.heap q.1 q.2) (hx:(tupleKind knd).is s.heap kx px) (hne:∀q∈ks,q.1≠kx) (hn:n<10*SetTable.turns t.mask)
  (he:t.slot (adv t n (t.probeStart ((tupleKind knd).hash kx))).j = .empty) (h:∀j,t.slot j = .empty->Q (.free j false) s) :
  ∀(k m fuel:Nat) (stand:Option SetTable.Probe),stand.getD (t.probeStart ((tupleKind knd).hash kx))=adv t m (t.probeStart ((tupleKind knd).hash kx))->m+k=n->k<fuel ->
   wpAny (model prog w) A (setSearchFrom a (.ref px) ((tupleKind knd).hash kx) adding fuel stand) Q E s:=by
 intro k
 induction k using Nat.strongRecOn with
 | _ k ih =>
  intro m fuel stand hst hmk hf
  cases fuel with
  | zero=>omega
  | succ fuel =>
   unfold setSearchFrom
   refine wpAny_bind (wpAny_setState_of ho hd hT.fits ?_)
   dsimp only
   rw[hT.odd]
   simp only[Bool.false_eq_true,if_false]
   rw[hst]
   unfold SetTable.probe
   rcases Rq hT.dm _ ((tupleKind knd).hash kx) (t.probeStart ((tupleKind knd).hash kx)) rfl k m n (10*SetTable.turns t.mask) hmk he (by omega)with⟨j,e1,e2⟩ | ⟨l,i,h1,h2,e1,e2,e3⟩
   ·rw[e1]
    dsimp only
    exact wpAny_pure (h j e2)
   ·rw[e3]
    dsimp only
    obtain⟨i',hi',hpl⟩:∃i',t.slot (adv t l (t.probeStart ((tupleKind knd).hash kx))).j = .live i'/\t.place[i']?=some (adv t l (t.probeStart ((tupleKind knd).hash kx))).j:=by
     rcases Z8 hT.dm (adv t l (t.probeStart ((tupleKind knd).hash kx))).j with z | z
     ·rw[z]at e1;cases e1
     ·exact z
    rw[e1]at hi';cases hi'
    have hlt:i<es.size:=by
     have:=(Array.getElem?_eq_some_iff.mp hpl).1
     rw[hT.pl]at this;exact this
    obtain⟨ent,hent⟩:∃ent,es[i]?=some ent:=⟨es[i],Array.getElem?_eq_some_iff.mpr ⟨hlt,rfl⟩⟩
    obtain⟨k',p',hm',rfl⟩:=hE.get hent
    have hseen:∀v∈(es.filter (·.1 ==(tupleKind knd).hash kx)).toList.map (·.2),∃k p,v = .ref p/\(tupleKind knd).is s.heap k p:=by
     intro v hv
     obtain⟨z,hz,rfl⟩:=List.mem_map.mp hv
     have hz':z∈es.toList:=by
      rw[Array.toList_filter]at hz
      exact(List.mem_filter.mp hz).1
     obtain⟨q,hq,rfl⟩:=List.mem_map.mp (hE.mem_iff.mp hz')
     exact⟨q.1,q.2,rfl,hks q hq⟩
    have rest:wpAny (model prog w) A (do
      let some (_,y):=es[i]? | unsupported "internal:set-entry"
      let equal <-holding [y] (eqBool y (.ref px))
      let(es',_,t') <-setState a
      if adding&&equal then return .there none
      let some same:=t'.sameMemory t.moves t.mask | unsupported "set.changed-during-lookup:is-the-new-block-at-the-old-address"
      let still <-match(if same then t'.slot (adv t l (t.probeStart ((tupleKind knd).hash kx))).j else .empty)with
       | .live i'=>match es'[i']? with
        | some (_,y')=>do pure (if <-isSame y' y then some i' else none)
        | none=>pure none
       | _=>pure none
      match still with
      | none=>rule "set.search.anew";setSearchFrom a (.ref px) ((tupleKind knd).hash kx) adding fuel none
      | some i'=>if equal then return .there (some i')else setSearchFrom a (.ref px) ((tupleKind knd).hash kx) adding fuel (some (adv t (l+1) (t.probeStart ((tupleKind knd).hash kx))))) Q E s:=by
     rw[hent]
     dsimp only
     refine wpAny_bind (wpAny_holding ((tupleKind knd).eqBool hr (hks _ hm') hx ?_))
     rw[decide_eq_false (hne _ hm')]
     refine wpAny_bind (wpAny_setState_of ho hd hT.fits ?_)
     dsimp only
     rw[Ra,Bool.and_false]
     simp only[Bool.false_eq_true,if_false,if_true]
     rw[e1]
     dsimp only
     rw[hent]
     dsimp only
     refine wpAny_bind (wpAny_isSame_ref_self (wpAny_bind (wpAny_pure ?_)))
     simp only[if_true]
     exact ih (n-(l+1)) (by omega) (l+1) fuel _ rfl (by omega) (by omega)
    cases hled:t.led with
    | true =>
     simp only[Bool.not_true,Bool.false_eq_true,if_false]
     exact rest
    | false =>
     simp only[Bool.not_false,if_true]
     refine wpAny_bind (Xo hF hx ?_ hseen)
     simp only[Bool.false_eq_true,if_false]
     exact rest
theorem Ak{a:Addr}{o:Obj}{es:Array (Int×Value)}{ep:Nat}{t:SetTable}{ks:List (List K×Addr)}{kx:List K}{px:Addr}{adding:Bool}{Q:SetFound->Shared->Prop}
  (hr:(tupleKind knd).room A) (hF:Flat knd) (ho:s.heap.get? a=some o) (hd:o.data = .set es ep t) (hE:Els knd es ks) (hT:Tab t es.size)
  (hks:∀q∈ks,(tupleKind knd).is s.heap q.1 q.2) (hx:(tupleKind knd).is s.heap kx px) (hne:∀q∈ks,q.1≠kx) (h:∀j,t.slot j = .empty->Q (.free j false) s) :
  wpAny (model prog w) A (setSearch a (.ref px) ((tupleKind knd).hash kx) adding) Q E s:=by
 obtain⟨j,hj,hs⟩:=Kp hT.dm (by rw[hT.pl];have:=hT.rm;omega)
 obtain⟨n,hn,e⟩:=Lk hT.mm ((tupleKind knd).hash kx) hj
 unfold setSearch
 refine Gm hr hF ho hd hE hT hks hx hne hn (by rw[e];exact hs) h n 0 100000 none rfl (by omega) ?_
 have:SetTable.turns t.mask<=526:=by
  unfold SetTable.turns
  rcases hT.mm with e | e | e | e<;>omega
 omega
theorem TSet.typeIs{a:Addr}{ks:List (List K×Addr)}(h:TSet knd s.heap a ks):s.TypeIs (.ref a) "set":=let⟨o,_,_,_,ho,hc,_⟩:=h;⟨o,ho,hc.1⟩
theorem On{px:Addr}{es:Array (Int×Value)}:byScan (.ref px) es=false:=rfl
theorem Ll{a:Addr}{ks:List (List K×Addr)}{kx:List K}{px:Addr}{Q:Option Nat->Shared->Prop}(hr:(tupleKind knd).room A)(hF:Flat knd)(hS:TSet knd s.heap a ks)
  (hks:∀q∈ks,(tupleKind knd).is s.heap q.1 q.2) (hx:(tupleKind knd).is s.heap kx px) (hne:∀q∈ks,q.1≠kx) (h:Q none s):wpAny (model prog w) A (setFind a (.ref px) ((tupleKind knd).hash kx)) Q E s:=by
 obtain⟨o,es,ep,t,ho,_,hd,hE,hT⟩:=hS
 unfold setFind setFindIn
 refine wpAny_bind (wpAny_setState_of ho hd hT.fits ?_)
 dsimp only
 rw[On]
 simp only[Bool.false_eq_true,if_false]
 refine wpAny_bind (Ak hr hF ho hd hE hT hks hx hne fun j _=>?_)
 dsimp only
 exact wpAny_pure h
theorem in_free{neg:Bool}{a:Addr}{ks:List (List K×Addr)}{kx:List K}{px:Addr}{Q:Value->Shared->Prop}(hr:A.units+1<cLine)(hF:Flat knd)(hS:TSet knd s.heap a ks)
  (hks:∀q∈ks,(tupleKind knd).is s.heap q.1 q.2) (hx:(tupleKind knd).is s.heap kx px) (hne:∀q∈ks,q.1≠kx) (h:Q (.bool false) { s with toks:=s.toks +(tupleKind knd).draws kx }) :
  wpAny (model prog w) A (compareOp .In (.ref px) (.ref a)) Q E s:=by
 show wpAny _ _ (do return .bool (<-contains (.ref a) (.ref px))) Q E s
 refine wpAny_bind ?_
 unfold contains
 try with_reducible refine wpAny_holding ?_
 refine wpAny_bind (wpAny_specialOf hS.typeIs F.slot_set_contains.lookup ?_)
 show wpAny _ _ (if(some (Value.builtin "set.__contains__") == some Value.none)=true then _ else _) _ E s
 rw[if_neg (by rw[beq_builtin_none];exact Bool.false_ne_true)]
 refine wpAny_bind (wpAny_callSpecialUnlessNone?_slot (name:=Str.ofString "__contains__") hS.typeIs F.slot_set_contains
  (wpAny_call_entry F.slot_set_contains hS.typeIs entry_set_contains ?_ (F.args_set_contains_2 _ _)))
 unfold Builtin.«frozenset.__contains__» Builtin.Frozenset.oneOther
 simp only[List.isEmpty_nil,bind_assoc]
 unfold Builtin.Frozenset.addrOf Builtin.Frozenset.withSetAsKey setContains
 refine wpAny_bind (wpAny_pure ?_)
 try dsimp only
 refine wpAny_bind (wpAny_pure ?_)
 try dsimp only
 refine wpAny_bind (wpAny_tryCatch ?_)
 refine wpAny_holding ?_
 refine wpAny_bind ((tupleKind knd).pyHash ?hroom hx ?_)
 case hroom=>exact hr
 refine wpAny_bind (Ll (s:={ s with toks:=s.toks +(tupleKind knd).draws kx }) ?hroom hF hS hks hx hne ?_)
 case hroom=>exact hr
 refine wpAny_pure ?_
 show wpAny _ _ (ret (Value.bool false)) _ _ _
 exact wpAny_pure ⟨_,rfl,wpAny_truthy_bool (wpAny_pure h)⟩
noncomputable def Scan(knd:KeyKind prog w K):Prop:=∀v,(∃x,knd.is x v=true)->v.scannable=true
theorem hbv{kx:List K}{px:Addr}{Q:Bool->Shared->Prop}(hB:Scan knd)(hx:(tupleKind knd).is s.heap kx px)(h:∀b,Q b s):wpAny (model prog w) A (hashByValue 8 (.ref px)) Q E s:=by
 obtain⟨o,items,n,ho,hc,hd,hi⟩:=hx
 have hT:s.TypeIs (.ref px) "tuple":=⟨o,ho,hc⟩
 unfold hashByValue
 refine wpAny_bind (wpAny_specialOf hT F.slot_tuple_hash.lookup ?_)
 dsimp only
 refine wpAny_bind (wpAny_seqItems ho hd ?_)
 dsimp only[Option.getD_some]
 rw[<-Array.forIn_toList]
 refine wpAny_bind (wpAny_mono (wpAny_forIn_list _ (fun rest c s'=>s'=s/\c =(none,())/\∀v∈rest,v∈items.toList) (fun c s'=>s'=s/\(c =(none,())\/c =(some false,()))) ?_ ?_ _ _ ⟨rfl,rfl,fun _ z=>z⟩) ?_ fun _ _ q=>q)
 ·rintro v rest c s' ⟨rfl,rfl,hr⟩
  rw[hashByValue_scannable _ (hB v (Ex hi v (hr v (List.mem_cons_self ..))))]
  refine wpAny_bind (wpAny_pure ?_)
  cases plainKind v with
  | true =>
   simp only[Bool.not_true,Bool.false_eq_true,if_false]
   exact wpAny_pure ⟨rfl,rfl,fun u hu=>hr u (List.mem_cons_of_mem _ hu)⟩
  | false =>
   simp only[Bool.not_false,if_true]
   exact wpAny_pure ⟨rfl,.inr rfl⟩
 ·rintro c s' ⟨rfl,rfl,_⟩
  exact⟨rfl,.inl rfl⟩
 ·rintro c s' ⟨rfl,rfl | rfl⟩
  ·exact wpAny_pure (h _)
  ·exact wpAny_pure (h _)
theorem X1{α:Type}(xs:Array α)(p:Nat)(x:α)(hp:p<=xs.size):(SetTable.insertAt xs p x).size=xs.size+1:=by
 unfold SetTable.insertAt
 rw[Array.size_append,Array.size_push,Array.size_extract,Array.size_extract]
 omega
theorem Dj{α:Type}(xs:Array α)(p:Nat)(x:α)(hp:p<=xs.size):(SetTable.insertAt xs p x).toList.Perm (xs.toList ++ [x]):=by
 unfold SetTable.insertAt
 rw[Array.toList_append,Array.toList_push,Array.toList_extract,Array.toList_extract]
 simp only[List.extract_eq_take_drop,List.drop_zero,Nat.sub_zero]
 have e:List.take (xs.size-p) (List.drop p xs.toList)=List.drop p xs.toList:=by
  rw[List.take_of_length_le]
  rw[List.length_drop,Array.length_toList]
  omega
 rw[e]
 have e2:xs.toList=xs.toList.take p++xs.toList.drop p:=(List.take_append_drop ..).symm
 conv=>rhs;rw[e2]
 rw[List.append_assoc,List.append_assoc]
 exact List.Perm.append_left _ List.perm_append_comm
theorem T8(xs:Array Nat)(j:Nat):∀(f lo hi:Nat),lo<=hi->SetTable.below.go xs j f lo hi<=hi
 | 0,lo,hi,h=>h
 | f+1,lo,hi,h=>by
  unfold SetTable.below.go
  split
  ·rename_i h'
   dsimp only
   split
   ·exact T8 xs j f _ _ (by omega)
   ·exact Nat.le_trans (T8 xs j f _ _ (by omega)) (by omega)
  ·exact h
theorem Qu(xs:Array Nat)(j:Nat):SetTable.below xs j<=xs.size:=T8 xs j _ _ _ (Nat.zero_le _)
theorem Xq{t:SetTable}(hd:t.dummies = #[])(j:Nat):t.put j =({ t with place:=SetTable.insertAt t.place (SetTable.below t.place j) j },SetTable.below t.place j):=by
 unfold SetTable.put
 have:SetTable.has t.dummies j=false:=by
  rw[hd];unfold SetTable.has;simp
 rw[this]
 rfl
theorem zBl:SetTable.sizeAbove 20=32:=by decide
theorem zBw:SetTable.sizeAbove 76=128:=by decide
theorem Zm:SetTable.sizeAbove 308=512:=by decide
theorem Pd{f:Array (Int×Value)->Option (SetTable×Array Nat)->Sem (Array (Int×Value)×SetTable)}(hf:∀es laid,f es laid =(do
  let some (t,order):=laid | unsupported "internal:set-table-without-room"
  let es':=order.filterMap (es[·]?)
  if es'.size != es.size then unsupported "internal:set-table-lost-an-element"
  pure (es',t)))
  {a:Addr} {o:Obj} {es:Array (Int×Value)} {ep:Nat} {t:SetTable} {n m:Nat} {Q:Unit->Shared->Prop} (ho:s.heap.get? a=some o) (hd:o.data = .set es ep t) (hdm:t.dummies = #[]) (hfit:t.fits es.size=true)
  (hm:SetTable.sizeAbove n=m+1) (hmm:Msk m) (hsz:es.size*5<m*3)
  (h:∀(es':Array (Int×Value)) (t':SetTable),es'.toList.Perm es.toList->Tab t' es'.size->Q () { s with heap:=s.heap.update a (Obj.putSet es' t') }) :
  wpAny (model prog w) A (do
   let(es,_,t) <-setState a
   if SetTable.sizeAbove n>sizeLine then unsupported "set:memory"
   let(es,t) <-f es (t.relaid (es.map (·.1)) n)
   storeSet a es t) Q E s:=by
 refine wpAny_bind (wpAny_setState_of ho hd hfit ?_)
 dsimp only
 have hm512:m<=511:=by rcases hmm with e | e | e | e<;>omega
 rw[hm,if_neg (by rw[sizeLine_eq];omega)]
 rw[hf]
 have hs:(es.map (·.1)).size<=m:=by rw[Array.size_map];omega
 obtain⟨place,order,e1,e2,e3⟩:=Uj hmm t.finger (t.movedTo (SetTable.sizeAbove n-1)) t.led t.plain (es.map (·.1)) hs
 have e0:t.relaid (es.map (·.1)) n=some ({ mask:=m,place,dummies:=#[],finger:=t.finger,led:=t.led,moves:=t.movedTo (SetTable.sizeAbove n-1),plain:=t.plain },order):=by
  unfold SetTable.relaid
  rw[hm]
  rw[hm]at e1
  exact e1
 rw[e0]
 dsimp only
 have hp:(order.filterMap (es[·]?)).toList.Perm es.toList:=Qc (by rw[Array.size_map]at e3;exact e3)
 have hz:(order.filterMap (es[·]?)).size=es.size:=by rw[<-Array.length_toList,hp.length_eq,Array.length_toList]
 rw[if_neg (by rw[hz];simp)]
 refine wpAny_bind (wpAny_pure ?_)
 dsimp only
 refine wpAny_storeSet_of ho hd (h _ _ hp ⟨rfl,?_,hmm,?_⟩) (by rw[hz,sizeLine_eq];omega)
 ·rw[hz,e2,Array.size_map]
 ·rw[hz];exact hsz
theorem Ck{h:Heap}{a:Addr}{o:Obj}{es:Array (Int×Value)}{ep:Nat}{t:SetTable}(ho:h.get? a=some o)(hd:o.data = .set es ep t)(es':Array (Int×Value))(t':SetTable) :
  (h.update a (Obj.putSet es' t')).get? a=some { o with data:=.set es' (ep+1) t' }:=by
 have:=Heap.get?_update_self (Obj.putSet es' t') ho (by rw[putSet_of es' t' hd];rfl)
 rw[putSet_of es' t' hd]at this;exact this
theorem Kr{a:Addr}{ks:List (List K×Addr)}{kx:List K}{px:Addr}{Q:Bool->Shared->Prop}(hr:(tupleKind knd).room A)(hF:Flat knd)(hB:Scan knd)(hS:TSet knd s.heap a ks)
  (hks:∀q∈ks,(tupleKind knd).is s.heap q.1 q.2) (hx:(tupleKind knd).is s.heap kx px) (hne:∀q∈ks,q.1≠kx) (hl:ks.length+1<=300)
  (h:∀h',Heap.SameBut a s.heap h'->TSet knd h' a (ks ++ [(kx,px)])->Q true { s with heap:=h' }) :
  wpAny (model prog w) A (setAddHashed a (.ref px) ((tupleKind knd).hash kx)) Q E s:=by
 obtain⟨o,es,ep,t,ho,hex,hd,hE,hT⟩:=hS
 have hsz:es.size=ks.length:=by
  have:=hE.length_eq
  rw[Array.length_toList,List.length_map]at this;exact this
 unfold setAddHashed setAddHashedIn
 refine wpAny_holding ?_
 refine wpAny_bind (wpAny_setState_of ho hd hT.fits ?_)
 dsimp only
 rw[On]
 simp only[Bool.false_eq_true,if_false]
 refine wpAny_bind (Ak hr hF ho hd hE hT hks hx hne fun j hj=>?_)
 dsimp only
 refine wpAny_bind (wpAny_setState_of ho hd hT.fits ?_)
 dsimp only
 rw[Xq hT.dm]
 dsimp only
 have hb:=Qu t.place j
 have hb':SetTable.below t.place j<=es.size:=by rw[hT.pl]at hb;exact hb
 have hrm:=hT.rm
 have hmm:=hT.mm
 have hsz1:=X1 es (SetTable.below t.place j) ((tupleKind knd).hash kx,Value.ref px) hb'
 have hpm:=Dj es (SetTable.below t.place j) ((tupleKind knd).hash kx,Value.ref px) hb'
 have hE1:∀es':Array (Int×Value),es'.toList.Perm (SetTable.insertAt es (SetTable.below t.place j) ((tupleKind knd).hash kx,Value.ref px)).toList->Els knd es' (ks ++ [(kx,px)]):=fun es' hp=>by
  unfold Els
  rw[List.map_append]
  exact hp.trans (hpm.trans (hE.append_right _))
 have key:∀t1:SetTable,t1.dummies = #[]->t1.mask=t.mask->t1.place.size=es.size+1->wpAny (model prog w) A (do
   storeSet a (SetTable.insertAt es (SetTable.below t.place j) ((tupleKind knd).hash kx,Value.ref px)) t1
   if(!false&&t1.tooFull)=true then do
    setRelay a (SetTable.grown (es.size+1))
    pure true
   else pure true) Q E s:=by
  intro t1 d1 m1 p1
  refine wpAny_bind (wpAny_storeSet_of ho hd ?_ (by rw[hsz1,sizeLine_eq];omega))
  have ho1:=Ck ho hd (SetTable.insertAt es (SetTable.below t.place j) ((tupleKind knd).hash kx,Value.ref px)) t1
  have sb1:=Heap.SameBut.update s.heap a (Obj.putSet (SetTable.insertAt es (SetTable.below t.place j) ((tupleKind knd).hash kx,Value.ref px)) t1)
  have htf:t1.tooFull=decide ((es.size+1)*5 ≥ t.mask*3):=by
   unfold SetTable.tooFull SetTable.fill
   rw[d1,m1,p1]
   rfl
  rw[htf,Bool.not_false,Bool.true_and]
  by_cases hfull:(es.size+1)*5 ≥ t.mask*3
  ·rw[decide_eq_true hfull,if_pos rfl]
   have hcase:∃m,SetTable.sizeAbove (SetTable.grown (es.size+1))=m+1/\Msk m/\(es.size+1)*5<m*3:=by
    have hg:SetTable.grown (es.size+1) =(es.size+1)*4:=by
     unfold SetTable.grown
     rw[if_neg (by omega)]
    rw[hg]
    rcases hmm with e | e | e | e
    ·have:es.size+1=5:=by omega
     rw[this]
     exact⟨31,zBl,.inr (.inl rfl),by decide⟩
    ·have:es.size+1=19:=by omega
     rw[this]
     exact⟨127,zBw,.inr (.inr (.inl rfl)),by decide⟩
    ·have:es.size+1=77:=by omega
     rw[this]
     exact⟨511,Zm,.inr (.inr (.inr rfl)),by decide⟩
    ·omega
   obtain⟨m,c1,c2,c3⟩:=hcase
   refine wpAny_bind ?_
   unfold setRelay
   refine Pd (fun _ _=>rfl) (s:={ s with heap:=_ }) ho1 rfl d1 ?_ c1 c2 (by rw[hsz1];exact c3) fun es' t' hp ht=>?_
   ·unfold SetTable.fits SetTable.fill
    rw[hsz1,p1,d1,m1]
    have h300:es.size+1+0<=t.mask:=by rcases hmm with e | e | e | e<;>omega
    simp
    omega
   ·refine wpAny_pure (h _ (sb1.trans (Heap.SameBut.update _ a _)) ?_)
    exact⟨_,es',_,t',Ck ho1 rfl es' t',hex,rfl,hE1 es' hp,ht⟩
  ·rw[decide_eq_false hfull,if_neg (by decide)]
   refine wpAny_pure (h _ sb1 ⟨_,_,_,t1,ho1,hex,rfl,hE1 _ (.refl _),⟨d1,?_,?_,?_⟩⟩)
   ·rw[p1,hsz1]
   ·rw[m1];exact hmm
   ·rw[m1,hsz1];omega
 have hps:(SetTable.insertAt t.place (SetTable.below t.place j) j).size=es.size+1:=by rw[X1 _ _ _ hb,hT.pl]
 cases hpl:t.plain with
 | true =>
  simp only[if_true]
  refine wpAny_bind (hbv hB hx fun b=>?_)
  cases b with
  | true =>
   simp only[if_true]
   exact key _ hT.dm rfl hps
  | false =>
   simp only[Bool.false_eq_true,if_false]
   exact key _ hT.dm rfl hps
 | false =>
  simp only[Bool.false_eq_true,if_false]
  refine wpAny_bind (wpAny_pure ?_)
  simp only[if_true]
  exact key _ hT.dm rfl hps
theorem call_add{a:Addr}{ks:List (List K×Addr)}{kx:List K}{px:Addr}{Q:Value->Shared->Prop}(hr:A.units+1<cLine)(hF:Flat knd)(hB:Scan knd)(hS:TSet knd s.heap a ks)
  (hks:∀q∈ks,(tupleKind knd).is s.heap q.1 q.2) (hx:(tupleKind knd).is s.heap kx px) (hne:∀q∈ks,q.1≠kx) (hl:ks.length+1<=300)
  (h:∀h',Heap.SameBut a s.heap h'->TSet knd h' a (ks ++ [(kx,px)])->Q .none { s with heap:=h',toks:=s.toks +(tupleKind knd).draws kx }) :
  wpAny (model prog w) A (call (.builtin "set.add") [.ref a,.ref px]) Q E s:=by
 refine wpAny_call_entry F.slot_set_add hS.typeIs F.entry_set_add ?_ (F.args_set_add_2 _ _)
 unfold Builtin.«set.add» Builtin.Frozenset.oneOther
 simp only[List.isEmpty_nil,bind_assoc]
 unfold Builtin.Frozenset.addrOf setAdd
 refine wpAny_bind (wpAny_pure ?_)
 try dsimp only
 refine wpAny_bind (wpAny_pure ?_)
 try dsimp only
 refine wpAny_bind ?_
 refine wpAny_holding ?_
 refine wpAny_bind ((tupleKind knd).pyHash ?hroom hx ?_)
 case hroom=>exact hr
 refine Kr (s:={ s with toks:=s.toks +(tupleKind knd).draws kx }) ?hroom hF hB hS hks hx hne hl fun h' hsb hS'=>?_
 case hroom=>exact hr
 show wpAny _ _ (ret Value.none) _ _ _
 exact wpAny_pure ⟨_,rfl,h h' hsb hS'⟩
end
theorem Jc:Manifest.owners.lookup (String.ofList ['r','o','t','a','r','e','t','i','_','t','e','s'].reverse)=some Manifest.sig_set_iterator:=by kernel_rfl
theorem slot_si_next:Slot "set_iterator" "__next__" "set_iterator.__next__" :=
 .of (owner := "set_iterator") (n := "__next__") (by rw[typeLookup_type,builtinLookup_eq_fast];kernel_rfl) (by decide +kernel) (by decide +kernel) (by decide +kernel) (by first | exact .inl (by decide +kernel) | exact .inr (by decide +kernel)) (by rw[isSubtype_type];kernel_rfl)
theorem X2:entryFor table "set_iterator.__next__" = some Builtin.«set_iterator.__next__»:=entryFor_of_tree (by kernel_rfl)
theorem j1(a:Value):argsOk "set_iterator.__next__" ⟨[a],[]⟩:=by
 unfold argsOk;rw[signature?_of (id := "set_iterator.__next__") (n:=['_','_','t','x','e','n','_','_']) (o:=['r','o','t','a','r','e','t','i','_','t','e','s']) (by kernel_rfl) Jc];kernel_rfl
theorem j9:Slot "set_iterator" "__iter__" "set_iterator.__iter__" :=
 .of (owner := "set_iterator") (n := "__iter__") (by rw[typeLookup_type,builtinLookup_eq_fast];kernel_rfl) (by decide +kernel) (by decide +kernel) (by decide +kernel) (by first | exact .inl (by decide +kernel) | exact .inr (by decide +kernel)) (by rw[isSubtype_type];kernel_rfl)
theorem Dw(a:Value):argsOk "set_iterator.__iter__" ⟨[a],[]⟩:=by
 unfold argsOk;rw[signature?_of (id := "set_iterator.__iter__") (n:=['_','_','r','e','t','i','_','_']) (o:=['r','o','t','a','r','e','t','i','_','t','e','s']) (by kernel_rfl) Jc];kernel_rfl
theorem Cw:entryFor table "set_iterator.__iter__" = some Builtin.«dict_keyiterator.__iter__» :=
 entryFor_alias (id' := "dict_keyiterator.__iter__") (by kernel_rfl) (by first | rfl | decide +kernel | (unfold String.splitOn;simp +decide [String.splitOnAux])) (by decide +kernel) (by kernel_rfl)
theorem Fv:entryFor table "set.__iter__" = some Builtin.«frozenset.__iter__» :=
 entryFor_alias (id' := "frozenset.__iter__") (by kernel_rfl) rfl (by decide +kernel) (by kernel_rfl)
theorem Zz:typeLookup (.type "set") "__len__" = pure (some (.builtin "set.__len__")):=by rw[typeLookup_type,builtinLookup_eq_fast];kernel_rfl
section
variable{prog:Program}{w:World}{A:Around}{E:Value->Shared->Prop}{s:Shared}
theorem Lf{n:Nat}{Q:Nat->Shared->Prop}(hn:n≠0)(h:∀i d,i<n->Q i { s with drawn:=d }):wpAny (model prog w) A (choose .order n) Q E s:=fun Γ p hΓ=>by
 unfold choose
 rw[Sem.wp_choose]
 exact⟨hn,h _ _ (Nat.mod_lt _ (Nat.pos_of_ne_zero hn))⟩
theorem erase_perm{α:Type}:∀{l:List α} {i:Nat} {x:α},l[i]?=some x->(x::l.eraseIdx i).Perm l
 | [],i,x,h=>by simp at h
 | y::l,0,x,h=>by
  have:y=x:=by simpa using h
  subst this
  exact .refl _
 | y::l,i+1,x,h=>by
  have h':l[i]?=some x:=by simpa using h
  exact(List.Perm.swap y x _).trans ((erase_perm h').cons y)
theorem Fj{α:Type}{l:List α}{i:Nat}{x:α}(h:l[i]?=some x):(l.eraseIdx i).length+1=l.length:=(erase_perm h).length_eq
theorem Nn{α:Type}:∀(n:Nat) (l:List α) (s:Shared) (Q:List α->Shared->Prop),l.length=n->(∀l' d,l'.Perm l->Q l' { s with drawn:=d })->wpAny (model prog w) A (drawOrder n l) Q E s
 | 0,l,s,Q,hl,h=>by
  unfold drawOrder
  obtain rfl:=List.length_eq_zero_iff.mp hl
  exact wpAny_pure (h [] s.drawn (.refl _))
 | n+1,[],s,Q,hl,h=>by simp at hl
 | n+1,x::xs,s,Q,hl,h=>by
  unfold drawOrder
  refine wpAny_bind (Lf (by simp) fun i d hi=>?_)
  have e:(x::xs)[i]?=some ((x::xs)[i]):=List.getElem?_eq_getElem hi
  rw[e]
  dsimp only
  have hp:=erase_perm e
  refine wpAny_bind (Nn n _ _ _ (by have:=Fj e;omega) fun l' d' hp'=>?_)
  exact wpAny_pure (h _ d' ((hp'.cons _).trans hp))
theorem Op{α:Type}(nx:Nat->Nat):∀(f k:Nat) (left:List α) (out:Array α),left.length=f->(pickOrder.go nx f k left out).toList.Perm (out.toList++left)
 | 0,k,left,out,h=>by
  obtain rfl:=List.length_eq_zero_iff.mp h
  unfold pickOrder.go
  simp
 | f+1,k,left,out,h=>by
  have hlt:nx k % left.length<left.length:=Nat.mod_lt _ (by omega)
  have e:left[nx k % left.length]?=some left[nx k % left.length]:=List.getElem?_eq_getElem hlt
  unfold pickOrder.go
  rw[e]
  dsimp only
  have hp:=erase_perm e
  refine(Op nx f (k+1) _ _ (by have:=Fj e;omega)).trans ?_
  rw[Array.toList_push,List.append_assoc]
  exact hp.append_left _
theorem u4{α:Type}(nx:Nat->Nat)(xs:Array α):(pickOrder nx xs).toList.Perm xs.toList:=by
 unfold pickOrder
 have:=Op nx xs.size 0 xs.toList #[] (Array.length_toList ..)
 simpa using this
structure SAt(w:World)(h:Heap)(a:Addr)(o:Obj)(es:Array (Int×Value))(ep:Nat)(t:SetTable):Prop where
 ho:h.get? a=some o
 ex:o.ExactSet
 hd:o.data = .set es ep t
 ft:t.fits es.size=true
 led:t.led=!(w.params.followText "set-order")
 pln:t.plain=true->es.size=0
 few:es.size<4096
noncomputable def sIt(first:Value)(i n ep:Nat)(a:Addr):Obj:={ cls:=.type "set_iterator",data:=.fields #[first,rawInt i,.ref a,rawInt n,rawInt ep] }
theorem M4{Q:Bool->Shared->Prop}(h:Q (w.params.followText "set-order") s):wpAny (model prog w) A setsByText Q E s:=by
 unfold setsByText
 exact wpAny_bind (wpAny_askSetting (wpAny_pure h))
variable{a it:Addr}{o:Obj}{es:Array (Int×Value)}{ep:Nat}{t:SetTable}
theorem q9{i sl:Nat}{r:Option (Value×Nat)}{Q:Option Value->Shared->Prop}(hh:A.handled=none)(S:SAt w s.heap a o es ep t)(hne:it≠a)(hi:s.heap.get? it=some (sIt (rawInt sl) i es.size ep a))
  (hin:∀(Q':Option (Value×Nat)->Shared->Prop) (A':Around) (E':Value->Shared->Prop),Q' r s->wpAny (model prog w) A' (setNext a sl i ep) Q' E' s)
  (hQ1:∀x nx h',r=some (x,nx)->h'.get? it=some (sIt (rawInt nx) (i+1) es.size ep a)->Heap.SameBut it s.heap h'->Q (some x) { s with heap:=h' })
  (hQ0:r=none->∀h',Heap.ExtBut it s.heap h'->Q none { s with heap:=h' }):wpAny (model prog w) A (pyNext (.ref it)) Q E s:=by
 have hT:s.TypeIs (.ref it) "set_iterator":=⟨_,hi,rfl⟩
 unfold pyNext
 refine wpAny_bind (wpAny_attempt (wpAny_callSpecial?_slot (name:=Str.ofString "__next__") hT slot_si_next (wpAny_call_entry slot_si_next hT X2 ?_ (j1 _))))
 unfold Builtin.«set_iterator.__next__»
 refine wpAny_bind (wpAny_of_eq (a:=(Value.ref it,[])) rfl ?_)
 dsimp only
 refine wpAny_bind (wpAny_fieldsOf hi rfl ?_)
 dsimp only[rawInt]
 refine wpAny_bind (wpAny_setEntries_of S.ho S.hd S.ft ?_)
 rw[if_neg (by simp)]
 simp only[Int.toNat_natCast]
 refine wpAny_bind (hin _ _ _ ?_)
 cases r with
 | some p =>
  obtain⟨x,nx⟩:=p
  dsimp only
  refine wpAny_bind (wpAny_setField hi rfl (by simp) ?_)
  have h1:=Heap.get?_update_self (Obj.mapFields (·.setIfInBounds 0 (rawInt (nx:Nat)))) hi rfl
  refine wpAny_bind (wpAny_setField h1 rfl (by simp) ?_)
  have h2:=Heap.get?_update_self (Obj.mapFields (·.setIfInBounds 1 (rawInt ((i:Int)+1)))) h1 rfl
  refine wpAny_pure ⟨x,rfl,wpAny_pure (hQ1 x nx _ rfl ?_ ((Heap.SameBut.update ..).trans (Heap.SameBut.update ..)))⟩
  exact h2
 | none =>
  dsimp only
  refine wpAny_bind (wpAny_setField hi rfl (by simp) ?_)
  refine wpAny_bind ?_
  simp only[newExc,newTuple]
  refine wpAny_bind (wpAny_newObj_type ?_ (by size_fits))
  refine wpAny_bind (m:=firstArgMember _ _) (wpAny_of_eq (a:=Value.none) (by first | rfl | (simp only[firstArgMember];rfl)) ?_)
  refine wpAny_newObj_type ?_ (by size_fits)
  simp only[raiseNew]
  refine wpAny_bind (wpAny_handled ?_)
  first | rw[show A.in1.handled=none from hh] | rw[hh]
  refine wpAny_bind (wpAny_pure (wpAny_throw ?_))
  refine wpAny_bind (wpAny_isInstance (T := "StopIteration") (b:=true) ⟨_,Heap.get?_push_size _ rfl,rfl⟩ isSubtype_stop ?_)
  exact wpAny_pure (hQ0 rfl _ ((Heap.ExtBut.push (Heap.ExtBut.push (fun b o hb e=>(Heap.get?_update_other _ _ (Ne.symm hb)).trans e) _)) _))
end
noncomputable def Yc(ps:List Nat):Obj:={ cls:=.type "tuple",data:=.seq (ps.map fun(i:Nat)=>rawInt i).toArray }
section
variable{prog:Program}{w:World}{A:Around}{E:Value->Shared->Prop}{s:Shared}{a it T:Addr}{o:Obj}{es:Array (Int×Value)}{ep:Nat}{t:SetTable}
theorem Iq{i:Nat}{ps:List Nat}{Q:Option Value->Shared->Prop}(hh:A.handled=none)(S:SAt w s.heap a o es ep t)(hi:s.heap.get? it=some (sIt (.ref T) i es.size ep a))(hT:s.heap.get? T=some (Yc ps))
  (hQ1:∀p x h',ps[i]?=some p->es[p]?=some x->h'.get? it=some (sIt (.ref T) (i+1) es.size ep a)->Heap.SameBut it s.heap h'->Q (some x.2) { s with heap:=h' }) (hps:∀p∈ps,p<es.size)
  (hQ0:ps.length<=i->∀h',Heap.ExtBut it s.heap h'->Q none { s with heap:=h' }):wpAny (model prog w) A (pyNext (.ref it)) Q E s:=by
 have hTy:s.TypeIs (.ref it) "set_iterator":=⟨_,hi,rfl⟩
 unfold pyNext
 refine wpAny_bind (wpAny_attempt (wpAny_callSpecial?_slot (name:=Str.ofString "__next__") hTy slot_si_next (wpAny_call_entry slot_si_next hTy X2 ?_ (j1 _))))
 unfold Builtin.«set_iterator.__next__»
 refine wpAny_bind (wpAny_of_eq (a:=(Value.ref it,[])) rfl ?_)
 dsimp only
 refine wpAny_bind (wpAny_fieldsOf hi rfl ?_)
 dsimp only[rawInt]
 refine wpAny_bind (wpAny_setEntries_of S.ho S.hd S.ft ?_)
 rw[if_neg (by simp)]
 simp only[Int.toNat_natCast]
 refine wpAny_bind (wpAny_seqItems hT rfl ?_)
 dsimp only
 cases e:ps[i]? with
 | some p =>
  have e':(ps.map fun(i:Nat)=>Value.int (i:Int) 0).toArray[i]?=some (.int (p:Int) 0):=by
   rw[List.getElem?_toArray,List.getElem?_map,e];rfl
  have e'':(ps.map fun(i:Nat)=>rawInt i).toArray[i]?=some (.int (p:Int) 0):=e'
  rw[e'']
  have hp:p<es.size:=hps p (List.mem_of_getElem? e)
  obtain⟨x,hx⟩:∃x,es[p]?=some x:=⟨es[p],Array.getElem?_eq_some_iff.mpr ⟨hp,rfl⟩⟩
  dsimp only
  simp only[Int.toNat_natCast]
  unfold setNextDrawn
  refine wpAny_bind (wpAny_bind (wpAny_setState_of S.ho S.hd S.ft ?_))
  dsimp only
  rw[if_neg (by simp),hx]
  dsimp only
  refine wpAny_pure ?_
  refine wpAny_bind (wpAny_setField hi rfl (by simp) ?_)
  have h2:=Heap.get?_update_self (Obj.mapFields (·.setIfInBounds 1 (rawInt ((i:Int)+1)))) hi rfl
  exact wpAny_pure ⟨x.2,rfl,wpAny_pure (hQ1 p x _ e hx h2 (Heap.SameBut.update ..))⟩
 | none =>
  have e'':(ps.map fun(i:Nat)=>rawInt i).toArray[i]?=none:=by
   rw[List.getElem?_toArray,List.getElem?_map,e];rfl
  rw[e'']
  dsimp only
  refine wpAny_bind (wpAny_setField hi rfl (by simp) ?_)
  have h1:=Heap.get?_update_self (Obj.mapFields (·.setIfInBounds 0 (rawInt 0))) hi rfl
  refine wpAny_bind (wpAny_setField h1 rfl (by simp) ?_)
  refine wpAny_bind ?_
  simp only[newExc,newTuple]
  refine wpAny_bind (wpAny_newObj_type ?_ (by size_fits))
  refine wpAny_bind (m:=firstArgMember _ _) (wpAny_of_eq (a:=Value.none) (by first | rfl | (simp only[firstArgMember];rfl)) ?_)
  refine wpAny_newObj_type ?_ (by size_fits)
  simp only[raiseNew]
  refine wpAny_bind (wpAny_handled ?_)
  rw[show A.in1.handled=none from hh]
  refine wpAny_bind (wpAny_pure (wpAny_throw ?_))
  refine wpAny_bind (wpAny_isInstance (T := "StopIteration") (b:=true) ⟨_,Heap.get?_push_size _ rfl,rfl⟩ isSubtype_stop ?_)
  refine wpAny_pure (hQ0 (List.getElem?_eq_none_iff.mp e) _ (Heap.ExtBut.push (Heap.ExtBut.push (fun b ob hb eb=>?_) _) _))
  exact(Heap.get?_update_other _ _ (Ne.symm hb)).trans ((Heap.get?_update_other _ _ (Ne.symm hb)).trans eb)
noncomputable def zAs(w:World)(a T:Addr)(es:Array (Int×Value))(ep:Nat)(t:SetTable)(order:List Value)(i:Nat)(h:Heap)(first:Value):Prop :=
 (w.params.followText "set-order" = true/\first=rawInt (0:Nat)/\order =(pickOrder (w.params.setOrder a ep) es).toList.map (·.2)) \/
 (w.params.followText "set-order" = false/\∃ps:List Nat,first = .ref T/\h.get? T=some (Yc ps)/\ps.Perm (List.range es.size)/\order=ps.filterMap fun p=>es[p]?.map (·.2)) \/
 (w.params.followText "set-order" = false/\es.size<=1/\order=es.toList.map (·.2)/\∃sl:Nat,first=rawInt sl/\(i=0->sl=0)/\(i=1->∃j,t.place = #[j]/\sl=j+1))
noncomputable def SSt(w:World)(a it T:Addr)(o:Obj)(es:Array (Int×Value))(ep:Nat)(t:SetTable)(order:List Value)(i:Nat)(h:Heap):Prop :=
 SAt w h a o es ep t/\∃first,h.get? it=some (sIt first i es.size ep a)/\zAs w a T es ep t order i h first
theorem SAt.at{h h':Heap}(S:SAt w h a o es ep t)(e:h'.get? a=some o):SAt w h' a o es ep t:=⟨e,S.ex,S.hd,S.ft,S.led,S.pln,S.few⟩
theorem Vw(j:Nat):SetTable.below #[j] 0=0:=by simp[SetTable.below,SetTable.below.go]
theorem Ww(j:Nat):SetTable.below #[j] (j+1)=1:=by simp[SetTable.below,SetTable.below.go]
theorem Qn(S:SAt w s.heap a o es ep t):t.place.size=es.size:=by
 have:=S.ft
 unfold SetTable.fits at this
 rw[Bool.and_eq_true]at this
 simpa using this.1
theorem Nl(hh:A.handled=none){order:List Value}(hia:it≠a)(hiT:it≠T):Walks prog w A it [it,a,T] [it] es.size (fun i v=>order[i]?=some v) (SSt w a it T o es ep t order) where
 sub:=fun b hb=>by simp at hb;simp[hb]
 frame:=fun i h h' ⟨S,first,hi,hm⟩ k=>by
  refine⟨S.at (k a (by simp) _ S.ho),first,k it (by simp) _ hi,?_⟩
  rcases hm with z | ⟨z1,ps,z2,z3,z4,z5⟩ | z
  ·exact .inl z
  ·exact .inr (.inl ⟨z1,ps,z2,k T (by simp) _ z3,z4,z5⟩)
  ·exact .inr (.inr z)
 item:=fun i s Q E hlt ⟨S,first,hi,hm⟩ hQ=>by
  have keep:∀h',Heap.SameBut it s.heap h'->∀b ob,b∉[it]->s.heap.get? b=some ob->h'.get? b=some ob:=fun h' hs b ob hb e=>(hs.2 b (by simpa using hb)).trans e
  rcases hm with⟨z1,rfl,z3⟩ | ⟨z1,ps,rfl,z3,z4,z5⟩ | ⟨z1,z2,z3,sl,rfl,z5,z6⟩
  ·have hpk:=u4 (w.params.setOrder a ep) es
   have hlen:(pickOrder (w.params.setOrder a ep) es).size=es.size:=by rw[<-Array.length_toList,hpk.length_eq,Array.length_toList]
   obtain⟨x,hx⟩:∃x,(pickOrder (w.params.setOrder a ep) es)[i]?=some x:=⟨_,Array.getElem?_eq_some_iff.mpr ⟨by rw[hlen];exact hlt,rfl⟩⟩
   refine q9 (r:=some (x.2,0)) hh S hia hi (fun Q' A' E' q=>?_) (fun y nx h' e1 e2 hs=>?_) (fun e=>nomatch e)
   ·unfold setNext setWalk
    refine wpAny_bind (wpAny_setState_of S.ho S.hd S.ft ?_)
    dsimp only
    refine wpAny_bind (M4 ?_)
    rw[z1,if_pos rfl,if_neg (by simp)]
    refine wpAny_bind (wpAny_bind (wpAny_setState_of S.ho S.hd S.ft ?_))
    dsimp only
    refine wpAny_bind (M4 ?_)
    rw[z1,if_pos rfl]
    refine wpAny_bind (wpAny_askSetting (wpAny_pure (wpAny_pure ?_)))
    show Q' (((pickOrder (w.params.setOrder a ep) es)[i]?).map fun e=>(e.2,0)) s
    rw[hx]
    exact q
   ·cases e1
    have:=hQ x.2 h' s.toks (by rw[z3,List.getElem?_map,Array.getElem?_toList,hx];rfl) ⟨S.at ((hs.2 a (Ne.symm hia)).trans S.ho),_,e2,.inl ⟨z1,rfl,z3⟩⟩ (keep h' hs)
    exact this
  ·refine Iq hh S hi z3 (fun p x h' e1 e2 e3 hs=>?_) (fun p hp=>List.mem_range.mp (z4.mem_iff.mp hp)) (fun hle=>?_)
   ·have hall:∀q∈ps,(es[q]?.map (·.2)).isSome=true:=fun q hq=>by
     have:q<es.size:=List.mem_range.mp (z4.mem_iff.mp hq)
     rw[Array.getElem?_eq_some_iff.mpr ⟨this,rfl⟩];rfl
    refine hQ x.2 h' s.toks ?_ ⟨S.at ((hs.2 a (Ne.symm hia)).trans S.ho),_,e3,.inr (.inl ⟨z1,ps,rfl,(hs.2 T (Ne.symm hiT)).trans z3,z4,z5⟩)⟩ (keep h' hs)
    have gen:∀(l:List Nat) (i p:Nat),(∀q∈l,(es[q]?.map (·.2)).isSome=true)->l[i]?=some p->(l.filterMap fun p=>es[p]?.map (·.2))[i]?=es[p]?.map (·.2):=by
     intro l
     induction l with
     | nil=>intro i p _ e;simp at e
     | cons q r ih =>
      intro i p hl e
      obtain⟨v,hv⟩:=Option.isSome_iff_exists.mp (hl q (List.mem_cons_self ..))
      rw[List.filterMap_cons,hv]
      dsimp only
      cases i with
      | zero =>
       have:q=p:=by simpa using e
       subst this
       simpa using hv.symm
      | succ i=>simpa using ih i p (fun q hq=>hl q (List.mem_cons_of_mem _ hq)) (by simpa using e)
    rw[z5,gen ps i p hall e1,e2]
    rfl
   ·have:=z4.length_eq
    rw[List.length_range]at this
    omega
  ·have h0:i=0:=by omega
   have h1:es.size=1:=by omega
   obtain⟨j,hj⟩:∃j,t.place = #[j]:=Array.size_eq_one_iff.mp ((Qn S).trans h1)
   obtain⟨x,hx⟩:∃x,es = #[x]:=Array.size_eq_one_iff.mp h1
   have hs0:=z5 h0
   subst hs0
   have hx0:es[0]?=some x:=by rw[hx];rfl
   refine q9 (r:=some (x.2,j+1)) hh S hia hi (fun Q' A' E' q=>?_) (fun y nx h' e1 e2 hs=>?_) (fun e=>nomatch e)
   ·unfold setNext
    refine wpAny_bind (wpAny_setState_of S.ho S.hd S.ft ?_)
    dsimp only
    refine wpAny_bind (M4 ?_)
    rw[z1,if_neg (by decide)]
    show wpAny _ _ (if(!t.plain&&decide (es.size>1))=true then _ else _) _ _ _
    rw[if_neg (by rw[h1];simp)]
    show wpAny _ _ (do (if(!t.led&&!es.isEmpty)=true then unsupported "set:maker-not-led" else pure ());_) _ _ _
    rw[S.led,z1,if_neg (by simp)]
    refine wpAny_bind (wpAny_pure ?_)
    rw[hj,Vw,hx0]
    exact wpAny_pure q
   ·cases e1
    refine hQ x.2 h' s.toks (by rw[z3,h0,hx];rfl) ⟨S.at ((hs.2 a (Ne.symm hia)).trans S.ho),_,e2,.inr (.inr ⟨z1,z2,z3,j+1,rfl,fun e=>by omega,fun _=>⟨j,hj,rfl⟩⟩)⟩ (keep h' hs)
 done:=fun s Q E ⟨S,first,hi,hm⟩ hQ=>by
  have keep:∀h',Heap.ExtBut it s.heap h'->∀b ob,b∉[it]->s.heap.get? b=some ob->h'.get? b=some ob:=fun h' hs b ob hb e=>hs b ob (by simpa using hb) e
  rcases hm with⟨z1,rfl,z3⟩ | ⟨z1,ps,rfl,z3,z4,z5⟩ | ⟨z1,z2,z3,sl,rfl,z5,z6⟩
  ·have hpk:=u4 (w.params.setOrder a ep) es
   have hlen:(pickOrder (w.params.setOrder a ep) es).size=es.size:=by rw[<-Array.length_toList,hpk.length_eq,Array.length_toList]
   refine q9 (r:=none) hh S hia hi (fun Q' A' E' q=>?_) (fun y nx h' e1=>nomatch e1) (fun _ h' hs=>hQ h' s.toks (keep h' hs))
   unfold setNext setWalk
   refine wpAny_bind (wpAny_setState_of S.ho S.hd S.ft ?_)
   dsimp only
   refine wpAny_bind (M4 ?_)
   rw[z1,if_pos rfl,if_neg (by simp)]
   refine wpAny_bind (wpAny_bind (wpAny_setState_of S.ho S.hd S.ft ?_))
   dsimp only
   refine wpAny_bind (M4 ?_)
   rw[z1,if_pos rfl]
   refine wpAny_bind (wpAny_askSetting (wpAny_pure (wpAny_pure ?_)))
   show Q' (((pickOrder (w.params.setOrder a ep) es)[es.size]?).map fun e=>(e.2,0)) s
   rw[Array.getElem?_eq_none (by rw[hlen];exact Nat.le_refl _)]
   exact q
  ·have hl:=z4.length_eq
   rw[List.length_range]at hl
   refine Iq hh S hi z3 (fun p x h' e1 e2 e3 hs=>?_) (fun p hp=>List.mem_range.mp (z4.mem_iff.mp hp)) (fun _ h' hs=>hQ h' s.toks (keep h' hs))
   have:=(List.getElem?_eq_some_iff.mp e1).1
   omega
  ·refine q9 (r:=none) hh S hia hi (fun Q' A' E' q=>?_) (fun y nx h' e1=>nomatch e1) (fun _ h' hs=>hQ h' s.toks (keep h' hs))
   unfold setNext
   refine wpAny_bind (wpAny_setState_of S.ho S.hd S.ft ?_)
   dsimp only
   refine wpAny_bind (M4 ?_)
   rw[z1,if_neg (by decide)]
   show wpAny _ _ (if(!t.plain&&decide (es.size>1))=true then _ else _) _ _ _
   rw[if_neg (by simp;intro _;omega)]
   show wpAny _ _ (do (if(!t.led&&!es.isEmpty)=true then unsupported "set:maker-not-led" else pure ());_) _ _ _
   rw[S.led,z1,if_neg (by simp)]
   refine wpAny_bind (wpAny_pure ?_)
   have hnone:es[SetTable.below t.place sl]?=none:=by
    by_cases h0:es.size=0
    ·exact Array.getElem?_eq_none (by rw[h0];exact Nat.zero_le _)
    ·obtain⟨j,hj,rfl⟩:=z6 (by omega)
     rw[hj,Ww]
     exact Array.getElem?_eq_none (by omega)
   rw[hnone]
   exact wpAny_pure q
 self:=fun i s Q E ⟨S,first,hi,hm⟩ h=>by
  have hT:s.TypeIs (.ref it) "set_iterator":=⟨_,hi,rfl⟩
  refine wpAny_pyIter_slot hT j9 (wpAny_call_entry j9 hT Cw ?_ (Dw _))
  show wpAny _ _ (ret (.ref it)) _ _ s
  exact wpAny_pure ⟨_,rfl, "set_iterator",_,hT,slot_si_next.lookup,h⟩
theorem Pu{Q:Value->Shared->Prop}(S:SAt w s.heap a o es ep t)
  (h:∀(it T:Addr) (order:List Value) (h':Heap) (d:Drawn),it≠a->it≠T->(T=a\/s.heap.objs.size<=T)->s.heap.objs.size<=it->(∀b ob,s.heap.get? b=some ob->h'.get? b=some ob)->order.Perm (es.toList.map (·.2))->SSt w a it T o es ep t order 0 h'->(∀b∈[it,a,T],b<h'.objs.size) ->
   (∀A':Around,A'.handled=none->Walks prog w A' it [it,a,T] [it] es.size (fun i v=>order[i]?=some v) (SSt w a it T o es ep t order))->Q (.ref it) { s with heap:=h',drawn:=d }):wpAny (model prog w) A (pyIter (.ref a)) Q E s:=by
 have hT:s.TypeIs (.ref a) "set":=⟨_,S.ho,S.ex.1⟩
 have ha:=Heap.lt_size S.ho
 refine wpAny_pyIter_slot hT F.slot_set_iter (wpAny_call_entry F.slot_set_iter hT Fv ?_ (F.args_set_iter_1 _))
 unfold Builtin.«frozenset.__iter__» Builtin.Frozenset.slot0 Builtin.Frozenset.sizeOf
 refine wpAny_bind (wpAny_bind (wpAny_of_eq (a:=(Value.ref a,[])) rfl ?_))
 dsimp only
 refine wpAny_of_eq (a:=a) rfl ?_
 refine wpAny_bind (wpAny_bind (wpAny_setEntries_of S.ho S.hd S.ft (wpAny_pure ?_)))
 have fin:∀(first:Value) (T:Addr) (order:List Value) (h1:Heap) (d:Drawn),(∀b ob,s.heap.get? b=some ob->h1.get? b=some ob)->s.heap.objs.size<=h1.objs.size->order.Perm (es.toList.map (·.2))->T<h1.objs.size->(T=a\/s.heap.objs.size<=T) ->
   (∀h2:Heap,(∀b ob,h1.get? b=some ob->h2.get? b=some ob)->zAs w a T es ep t order 0 h2 first) ->
   wpAny (model prog w) A.in1 (do let e <-setEpoch a;let x <-newFields "set_iterator" [first,rawInt 0,.ref a,rawInt (es.size:Nat),rawInt (e:Nat)];ret x) (fun r s'=>∃v,r=Fin.done (Flow.ret v)/\∃T' r,s'.TypeIs v T'/\typeLookup (Value.type T') (Str.ofString "__next__")=pure (some r)/\Q v s') E { s with heap:=h1,drawn:=d }:=by
  intro first T order h1 d k hsz hp hTl hTa hm
  refine wpAny_bind (wpAny_setEpoch_of (s:={ s with heap:=h1,drawn:=d }) (k a o S.ho) S.hd S.ft ?_)
  refine wpAny_bind (wpAny_newObj_type ?_)
  have hg:(h1.push (sIt first 0 es.size ep a)).get? h1.objs.size=some (sIt first 0 es.size ep a):=Heap.get?_push_size _ rfl
  have k2:∀b ob,h1.get? b=some ob->(h1.push (sIt first 0 es.size ep a)).get? b=some ob:=fun b ob e=>Heap.get?_push_of_some _ e
  have hia:h1.objs.size≠a:=fun e=>absurd (Nat.lt_of_lt_of_le ha hsz) (by rw[<-e];exact Nat.lt_irrefl _)
  have hiT:h1.objs.size≠T:=fun e=>absurd hTl (by rw[<-e];exact Nat.lt_irrefl _)
  refine wpAny_pure ⟨.ref h1.objs.size,rfl, "set_iterator",_,⟨_,hg,rfl⟩,slot_si_next.lookup,?_⟩
  refine h h1.objs.size T order (h1.push (sIt first 0 es.size ep a)) d hia hiT hTa hsz (fun b ob e=>k2 b ob (k b ob e)) hp ⟨S.at (k2 a o (k a o S.ho)),first,hg,hm _ k2⟩ (fun b hb=>?_) fun A' hh=>Nl hh hia hiT
  rw[Heap.size_push]
  simp only[List.mem_cons,List.not_mem_nil,or_false]at hb
  rcases hb with rfl | rfl | rfl
  ·exact Nat.lt_succ_self _
  ·exact Nat.lt_succ_of_lt (Nat.lt_of_lt_of_le ha hsz)
  ·exact Nat.lt_succ_of_lt hTl
 unfold setDrawn
 refine wpAny_bind (wpAny_bind (wpAny_setState_of S.ho S.hd S.ft ?_))
 dsimp only
 refine wpAny_bind (M4 (wpAny_pure ?_))
 cases hb:w.params.followText "set-order" with
 | true =>
  show wpAny _ _ (if(!true &&(!t.plain&&decide (es.size>1)))=true then _ else _) _ _ _
  rw[Bool.not_true,Bool.false_and,if_neg (by decide)]
  refine wpAny_bind (wpAny_pure ?_)
  exact fin _ a _ s.heap s.drawn (fun _ _ e=>e) (Nat.le_refl _) ((u4 _ es).map _) ha (.inl rfl) fun h2 _=>.inl ⟨hb,rfl,rfl⟩
 | false =>
  show wpAny _ _ (if(!false &&(!t.plain&&decide (es.size>1)))=true then _ else _) _ _ _
  by_cases hdr:(!t.plain&&decide (es.size>1))=true
  ·rw[Bool.not_false,Bool.true_and,if_pos hdr]
   refine wpAny_bind (Nn es.size (List.range es.size) s _ (List.length_range ..) fun ps d hp=>wpAny_bind ?_)
   unfold newTuple
   refine wpAny_newObj_type ?_ ?_
   ·have hg:(s.heap.push (Yc ps)).get? s.heap.objs.size=some (Yc ps):=Heap.get?_push_size _ rfl
    refine fin _ s.heap.objs.size (ps.filterMap fun p=>es[p]?.map (·.2)) (s.heap.push (Yc ps)) d (fun b ob e=>Heap.get?_push_of_some _ e) (by rw[Heap.size_push];exact Nat.le_succ _) ?_ (by rw[Heap.size_push];exact Nat.lt_succ_self _) (.inr (Nat.le_refl _)) fun h2 k2=>.inr (.inl ⟨hb,ps,rfl,k2 _ _ hg,hp,rfl⟩)
    refine(hp.filterMap _).trans (List.Perm.of_eq ?_)
    have:=filterMap_getElem?_range es
    rw[<-this,List.map_filterMap]
   ·have h1:=hp.length_eq
    have h2:=S.few
    rw[List.length_range]at h1
    show(List.map _ ps).toArray.size<=sizeLine
    rw[List.size_toArray,List.length_map,sizeLine_eq]
    omega
  ·rw[Bool.not_false,Bool.true_and,if_neg hdr]
   refine wpAny_bind (wpAny_pure ?_)
   have hle:es.size<=1:=by
    by_cases hp:t.plain=true
    ·have:=S.pln hp;omega
    ·have hp':t.plain=false:=by simpa using hp
     rw[hp']at hdr
     simp at hdr
     omega
   exact fin _ a _ s.heap s.drawn (fun _ _ e=>e) (Nat.le_refl _) (.refl _) ha (.inl rfl) fun h2 _=>.inr (.inr ⟨hb,hle,rfl,0,rfl,fun _=>rfl,fun e=>absurd e (by decide)⟩)
end
section
variable{prog:Program}{w:World}{A:Around}{E:Value->Shared->Prop}{s:Shared}{a:Addr}{o:Obj}{es:Array (Int×Value)}{ep:Nat}{t:SetTable}
theorem Pr{order:List Value}{acc:Array Value}(h:ItemsOf (fun i v=>order[i]?=some v) acc order.length):acc.toList=order:=by
 refine List.ext_getElem? fun i=>?_
 rw[Array.getElem?_toList]
 by_cases hi:i<acc.size
 ·have e:acc[i]?=some acc[i]:=Array.getElem?_eq_some_iff.mpr ⟨hi,rfl⟩
  rw[e,h.2 i _ e]
 ·rw[Array.getElem?_eq_none (by omega),List.getElem?_eq_none (by have:=h.1;omega)]
theorem collect_set{Q:List Value->Shared->Prop}(hh:A.handled=none)(S:SAt w s.heap a o es ep t)
  (hQ:∀s' acc,(∀b ob,s.heap.get? b=some ob->s'.heap.get? b=some ob)->s'.gens=s.gens->s'.os=s.os->s.heap.objs.size<s'.heap.objs.size->acc.Perm (es.toList.map (·.2))->Q acc s'):wpAny (model prog w) A (collect (.ref a)) Q E s:=by
 have ha:=Heap.lt_size S.ho
 unfold collect
 refine wpAny_bind (wpAny_runValue (codeAny_builtin F.entry_proto_collect ?_))
 rw[Around.under_plainId F.plain_proto_collect _]
 show wpAny _ A.in1 (newList [] >>= fun l=>again (.builtin "list.__iadd__" ⟨[l,.ref a],[]⟩)) _ _ s
 refine wpAny_bind (wpAny_newObj_type ?_)
 refine wpAny_pure ⟨plainId_quiet F.plain_list_iadd _,codeAny_builtin F.entry_list_iadd ?_⟩
 rw[Around.under_plainId F.plain_list_iadd _]
 show wpAny _ A.in1 (Builtin.List.listExtendWith (.ref s.heap.objs.size) (.ref a) (.ref s.heap.objs.size)) _ _ _
 unfold Builtin.List.listExtendWith
 have hne:s.heap.objs.size≠a:=fun e=>absurd ha (by rw[<-e];exact Nat.lt_irrefl _)
 generalize hH:s.heap.push { cls:=.type "list",data:=.seq ([]:List Value).toArray }=H
 have kH:∀b ob,s.heap.get? b=some ob->H.get? b=some ob:=fun b ob e=>by rw[<-hH];exact Heap.get?_push_of_some _ e
 have hHs:H.objs.size=s.heap.objs.size+1:=by rw[<-hH,Heap.size_push]
 have hS:H.get? s.heap.objs.size=some { cls:=.type "list",data:=.seq ([]:List Value).toArray }:=by rw[<-hH];exact Heap.get?_push_size _ rfl
 have hT:Shared.TypeIs { s with heap:=H } (.ref a) "set":=⟨o,kH a o S.ho,S.ex.1⟩
 refine wpAny_bind (wpAny_typeOf hT ?_)
 have h1:Builtin.List.listSameRef (.ref s.heap.objs.size) (.ref a)=false:=by simp[Builtin.List.listSameRef,hne]
 have h2:(Value.type "set" == Value.type "list")=false:=by decide
 have h3:(Value.type "set" == Value.type "tuple")=false:=by decide
 simp only[h1,h2,h3,Bool.or_false,Bool.false_eq_true,if_false]
 refine wpAny_bind (Pu (s:={ s with heap:=H }) (S.at (kH a o S.ho)) fun it T order h' d hia hiT hTa hsz k hp st hlt W=>?_)
 have hT':Shared.TypeIs { s with heap:=h',drawn:=d } (.ref a) "set":=⟨o,k a o (kH a o S.ho),S.ex.1⟩
 refine wpAny_bind (wpAny_holding ?_)
 unfold Builtin.List.listLengthHint
 refine wpAny_bind (wpAny_specialOf hT' Zz ?_)
 wp_delta
 refine wpAny_bind (wpAny_isInstance hT' (b:=true) (by rw[isSubtype_type];kernel_rfl) ?_)
 show wpAny _ A.in1 (typeOf (Value.ref a) >>= _) _ _ _
 refine wpAny_bind (wpAny_typeOf hT' ?_)
 refine wpAny_pure ?_
 rw[if_pos (by decide)]
 refine wpAny_bind (wpAny_rule ?_)
 have hS1:h'.get? s.heap.objs.size=some { cls:=.type "list",data:=.seq ([]:List Value).toArray }:=k _ _ hS
 refine wpAny_bind ?_
 show wpAny _ A.in1 (updateSeq s.heap.objs.size (·.push .none) >>= fun _=>updateSeq s.heap.objs.size (·.pop)) _ _ _
 refine wpAny_bind (wpAny_updateSeq hS1 rfl ?_)
 have hS2:=Heap.get?_update_self (Obj.mapSeq (·.push Value.none)) hS1 rfl
 refine wpAny_updateSeq hS2 rfl ?_
 have hS3:=Heap.get?_update_self (Obj.mapSeq (·.pop)) hS2 rfl
 have oth:∀b ob,b≠s.heap.objs.size->h'.get? b=some ob->((h'.update s.heap.objs.size (Obj.mapSeq (·.push Value.none))).update s.heap.objs.size (Obj.mapSeq (·.pop))).get? b=some ob :=
  fun b ob hb e=>(Heap.get?_update_other _ _ (Ne.symm hb)).trans ((Heap.get?_update_other _ _ (Ne.symm hb)).trans e)
 have hSf:s.heap.objs.size∉[it,a,T]:=by
  have e1:s.heap.objs.size≠it:=fun e=>absurd hsz (by
   show ¬H.objs.size<=it
   rw[hHs,<-e];exact Nat.not_succ_le_self _)
  have e2:s.heap.objs.size≠T:=fun e=>by
   rcases hTa with z | z
   ·exact hne (e.trans z)
   ·exact absurd z (by
     show ¬H.objs.size<=T
     rw[hHs,<-e];exact Nat.not_succ_le_self _)
  simp only[List.mem_cons,List.not_mem_nil,or_false,not_or]
  exact⟨e1,hne,e2⟩
 have hle:es.size=order.length:=by
  have:=hp.length_eq
  rw[List.length_map,Array.length_toList]at this
  exact this.symm
 have hfew:=S.few
 refine wpAny_pure ⟨plainId_quiet F.plain_extend_loop _,codeAny_extend_loopS (W A.in1 hh).toS (by rw[sizeLine_eq];omega) _ hSf _ es.size 0 _ _ _ rfl (Nat.zero_le _)
  ((W A.in1 hh).frame 0 h' _ st fun b hb ob e=>oth b ob (fun z=>hSf (z▸hb)) e) hS3 (ItemsOf.nil _) fun s' acc' c' hm hS' hacc=>?_⟩
 show wpAny _ A (load s.heap.objs.size >>= _) _ _ s'
 refine wpAny_bind (wpAny_load hS' ?_)
 rw[hle]at hacc
 refine wpAny_pure (hQ s' acc'.toList (fun b ob e=>hm.heap b ob (fun hb=>?_) (oth b ob (fun z=>?_) (k b ob (kH b ob e)))) hm.gens hm.os (Heap.lt_size hS') (by rw[Pr hacc];exact hp))
 ·have hbl:=Heap.lt_size e
  rcases List.mem_cons.mp hb with z | z
  ·exact absurd hbl (by rw[z];exact Nat.lt_irrefl _)
  ·rw[List.mem_singleton.mp z]at hbl
   have:H.objs.size<=it:=hsz
   rw[hHs]at this
   exact absurd (Nat.lt_of_lt_of_le hbl (Nat.le_of_succ_le this)) (Nat.lt_irrefl _)
 ·exact absurd (Heap.lt_size e) (by rw[z];exact Nat.lt_irrefl _)
end
end ST
namespace ST
open PySem L2
theorem Xj(t:SetTable)(n:Nat):(t.orStandIn n).led=t.led:=by
 unfold SetTable.orStandIn
 split<;>rfl
theorem So(t:SetTable)(es:Array (Int×Value))(h:Int)(x:Value):(layNew t es h x).2.1.led=t.led:=by
 unfold layNew
 split
 ·rename_i sl wd e
  show((t.put sl).1.orStandIn _).led=_
  rw[Xj]
  rfl
 ·rfl
theorem Jt{t t':SetTable}{hs:Array Int}{n:Nat}{ord:Array Nat}(h:t.relaid hs n=some (t',ord)):t'.led=t.led/\t'.plain=t.plain:=by
 unfold SetTable.relaid SetTable.laid at h
 cases e:SetTable.layClean (SetTable.sizeAbove n-1) hs with
 | none=>rw[e]at h;cases h
 | some ow =>
  rw[e]at h
  cases h
  exact⟨rfl,rfl⟩
theorem Mn(t:SetTable)(es:Array (Int×Value))(n:Nat)(hp:t.plain=false):(relayAll t es n).2.1.led=t.led/\(relayAll t es n).2.1.plain=false:=by
 unfold relayAll
 split
 ·rename_i t' ord e
  obtain⟨e1,e2⟩:=Jt e
  dsimp only
  split
  ·exact⟨e1,e2.trans hp⟩
  ·exact⟨rfl,rfl⟩
 ·exact⟨rfl,rfl⟩
noncomputable def zBn:Value->Str
 | .str x _=>x
 | _=>Str.empty
section
variable{prog:Program}{w:World}{A:Around}{E:Value->Shared->Prop}{s:Shared}{a:Addr}
structure TxtEs(w:World)(es:Array (Int×Value))(ss:List Str):Prop where
 el:∀e∈es.toList,∃x tk,e =(hashStr w x,Value.str x tk)
 pm:(es.toList.map fun e=>zBn e.2).Perm ss
 nd:ss.Nodup
noncomputable def WS(w:World)(h:Heap)(a:Addr)(ss:List Str):Prop:=∃o es ep t,SAt w h a o es ep t/\TxtEs w es ss
theorem TxtEs.elems{es:Array (Int×Value)}{ss:List Str}(h:TxtEs w es ss):ElemsOf (D8 prog w) es.toList:=fun e he=>by
 obtain⟨x,tk,rfl⟩:=h.el e he
 exact⟨⟨.inr x,X0 x tk,rfl⟩,rfl⟩
theorem TxtEs.mem{es:Array (Int×Value)}{ss:List Str}(h:TxtEs w es ss)(x:Str):x∈ss↔∃e∈es.toList,(D8 prog w).is (.inr x) e.2=true:=by
 rw[<-h.pm.mem_iff]
 constructor
 ·intro hm
  obtain⟨e,he,rfl⟩:=List.mem_map.mp hm
  obtain⟨y,tk,rfl⟩:=h.el e he
  exact⟨_,he,X0 y tk⟩
 ·rintro⟨e,he,hk⟩
  obtain⟨y,tk,rfl⟩:=h.el e he
  have:y=x:=by
   rcases E7 (show Dp (.inr x) (.str y tk)=true from hk)with⟨i,t,e1,e2⟩ | ⟨z,t,e1,e2⟩
   ·cases e2
   ·cases e1;cases e2;rfl
  subst this
  exact List.mem_map.mpr ⟨_,he,rfl⟩
theorem TxtEs.len{es:Array (Int×Value)}{ss:List Str}(h:TxtEs w es ss):es.size=ss.length:=by
 have:=h.pm.length_eq
 rw[List.length_map,Array.length_toList]at this;exact this
theorem add_txt{ss:List Str}{x:Str}{tk:Tok}{Q:Bool->Shared->Prop}(S:WS w s.heap a ss)(hl:ss.length+1<4096)
  (h:∀h' b,Heap.SameBut a s.heap h'->WS w h' a (if x∈ss then ss else ss ++ [x])->Q b { s with heap:=h' }) :
  wpAny (model prog w) A (setAddHashed a (.str x tk) (hashStr w x)) Q E s:=by
 obtain⟨o,es,ep,t,S,T⟩:=id S
 have hkey:(D8 prog w).is (.inr x) (.str x tk)=true:=X0 x tk
 have hsz:=T.len
 unfold setAddHashed setAddHashedIn
 refine wpAny_holding (wpAny_bind (wpAny_setState_of S.ho S.hd S.ft ?_))
 dsimp only
 rw[byScan_of (knd:=D8 prog w) rfl S.few T.elems,if_pos rfl]
 unfold setAddByScan
 refine wpAny_bind (wpAny_bind (wpAny_rule ?_))
 refine wpAny_bind (wpAny_setScan_of hkey S.ho S.hd S.ft T.elems ?_)
 cases hr:List.findIdx? (fun e=>(D8 prog w).is (.inr x) e.2) es.toList with
 | some j =>
  dsimp only
  obtain⟨hj,hpj,_⟩:=List.findIdx?_eq_some_iff_getElem.mp hr
  have hx:x∈ss:=(T.mem (prog:=prog) x).mpr ⟨es.toList[j],List.getElem_mem hj,hpj⟩
  refine wpAny_pure (wpAny_pure ?_)
  have:=h s.heap false (Heap.SameBut.refl a s.heap) (by rw[if_pos hx];exact⟨o,es,ep,t,S,T⟩)
  exact this
 | none =>
  dsimp only
  have hx:¬x∈ss:=fun hx=>by
   obtain⟨e,he,hp⟩:=(T.mem (prog:=prog) x).mp hx
   have:=List.findIdx?_eq_none_iff.mp hr e he
   rw[hp]at this;exact Bool.noConfusion this
  have hgw:∀(b:Bool) {s1:Shared} {Q':Unit->Shared->Prop},Q' () s1->wpAny (model prog w) A (match b with | true=>rule "set.scan.the-table-gave-way" | false=>pure ()) Q' E s1 :=
   fun b s1 Q' hq=>by cases b<;>first | exact wpAny_pure hq | exact wpAny_rule hq
  have hperm:=layNew_perm t es (hashStr w x) (.str x tk)
  have hfits:=layNew_fits t es (hashStr w x) (.str x tk)
  have hled:=So t es (hashStr w x) (.str x tk)
  show wpAny _ _ (match layNew t es (hashStr w x) (.str x tk)with | (es,t,wasDummy,gave)=>_) _ _ _
  generalize layNew t es (hashStr w x) (.str x tk)=L at hperm hfits hled⊢
  obtain⟨es1,t1,wasDummy,gave⟩:=L
  dsimp only at hperm hfits hled⊢
  rw[Array.toList_push]at hperm
  have hT1:∀es2:Array (Int×Value),es2.toList.Perm es1.toList->TxtEs w es2 (ss ++ [x]):=fun es2 hp2=>by
   refine⟨fun e he=>?_,?_,?_⟩
   ·rcases List.mem_append.mp (hperm.mem_iff.mp (hp2.mem_iff.mp he))with z | z
    ·exact T.el e z
    ·exact⟨x,tk,List.mem_singleton.mp z⟩
   ·refine((hp2.trans hperm).map _).trans ?_
    rw[List.map_append]
    exact T.pm.append (.refl _)
   ·rw[List.nodup_append]
    refine⟨T.nd,by simp,fun y hy z hz=>?_⟩
    rw[List.mem_singleton.mp hz]
    rintro rfl
    exact hx hy
  have hsz1:es1.size=ss.length+1:=by
   have:=(hT1 es1 (.refl _)).len
   rw[List.length_append]at this;exact this
  refine wpAny_bind (hgw _ ?_)
  have key:∀t2:SetTable,t2.led=t.led->t2.plain=false->t2.fits es1.size=true->wpAny (model prog w) A (do
    storeSet a es1 t2
    if(!wasDummy&&t2.tooFull)=true then do
      (match(relayAll t2 es1 (SetTable.grown es1.size)).2.2 with | true=>rule "set.scan.the-table-gave-way" | false=>pure ())
      storeSet a (relayAll t2 es1 (SetTable.grown es1.size)).1 (relayAll t2 es1 (SetTable.grown es1.size)).2.1
      pure (some true)
     else pure (some true)) (fun r s'=>wpAny (model prog w) A (match r with | some added=>pure added | none=>setAddHashedIn a (.str x tk) (hashStr w x) 99999) Q E s') E s:=by
   intro t2 l2 p2 f2
   refine wpAny_bind (wpAny_storeSet_of S.ho S.hd ?_ (by rw[hsz1,sizeLine_eq];omega))
   have ho1:=Ck S.ho S.hd es1 t2
   have sb1:=Heap.SameBut.update s.heap a (Obj.putSet es1 t2)
   split
   ·have hp:=relayAll_perm t2 es1 (SetTable.grown es1.size)
    have hf:=relayAll_fits t2 es1 (SetTable.grown es1.size)
    obtain⟨hl3,hp3⟩:=Mn t2 es1 (SetTable.grown es1.size) p2
    have hz2:(relayAll t2 es1 (SetTable.grown es1.size)).1.size=es1.size:=by rw[<-Array.length_toList,hp.length_eq,Array.length_toList]
    refine wpAny_bind (hgw _ ?_)
    refine wpAny_bind (wpAny_storeSet_of ho1 rfl ?_ (by rw[hz2,hsz1,sizeLine_eq];omega))
    refine wpAny_pure (wpAny_pure (h _ true (sb1.trans (Heap.SameBut.update _ a _)) ?_))
    rw[if_neg hx]
    exact⟨_,_,_,_,⟨Ck ho1 rfl _ _,S.ex,rfl,hf,hl3.trans (l2.trans S.led),(fun z=>by rw[hp3]at z;cases z),by rw[hz2,hsz1];omega⟩,hT1 _ hp⟩
   ·refine wpAny_pure (wpAny_pure (h _ true sb1 ?_))
    rw[if_neg hx]
    exact⟨_,es1,_,t2,⟨ho1,S.ex,rfl,f2,l2.trans S.led,(fun z=>by rw[p2]at z;cases z),by rw[hsz1];omega⟩,hT1 _ (.refl _)⟩
  cases hpl:t1.plain with
  | true =>
   rw[if_pos rfl,hashByValue_scannable 8 (x:=Value.str x tk) rfl]
   refine wpAny_bind (wpAny_pure ?_)
   exact key { t1 with plain:=false } hled rfl (SetTable.fits_plain_off hfits)
  | false =>
   rw[if_neg (by decide)]
   refine wpAny_bind (wpAny_pure ?_)
   exact key t1 hled hpl hfits
end
end ST
namespace L2
open PySem PySem.Spec PyProof.Rows
noncomputable def Dm(w:World)(a:Addr)(ss:List Str):HO:=.ext fun h=>ST.WS w h a ss
section
variable{X:Cx}{pins:List (Addr×Obj)}{σ:St}{H:Hp}{s:Shared}{a:Addr}{ss:List Str}
theorem Rs{P:Program}{w:World}{H:Hp}{h:Heap}(z:ST.WS w h a ss):ObjOk P w H h a (Dm w a ss) :=
 ⟨z,let⟨o,_,_,_,S,_⟩:=z;⟨o,S.ho⟩,fun h1 h2 ⟨o,es,ep,t,S,r⟩ k=>⟨o,es,ep,t,S.at (k o S.ho),r⟩⟩
theorem Inv.setw(I:Inv X pins σ H s)(e:H a=some (Dm X.w a ss)):ST.WS X.w s.heap a ss:=by
 obtain⟨z,_⟩:=(show ObjOk X.prog X.w H s.heap a (Dm X.w a ss)from I.hok a _ e)
 exact z
noncomputable def Pj(l:List Str)(x:Str):List Str:=if x∈l then l else l ++ [x]
noncomputable def Zr(w:World):V->List V->Hp->VK->Prop:=fun x vs H Q=>∃a l k,x = .ref a/\vs = [.str k]/\H a=some (Dm w a l)/\l.length+1<4096/\Q .non (upd H a (Dm w a (Pj l k)))
theorem WS.typeIs{ss:List Str}(z:ST.WS X.w s.heap a ss):s.TypeIs (.ref a) "set":=let⟨o,_,_,_,S,_⟩:=z;⟨o,S.ho,S.ex.1⟩
theorem Uv:MtM X "set.add" (Zr X.w):=by
 intro pins s σ H x vs v us Q I rx rv h
 obtain⟨a,l,k,rfl,rfl,hH,hz,q⟩:=h
 cases rx
 obtain⟨u,rfl,⟨tk,rfl⟩⟩:=rv.one
 have z:=I.setw hH
 refine wpAny_call_entry F.slot_set_add (WS.typeIs z) F.entry_set_add ?_ (F.args_set_add_2 _ _)
 unfold Builtin.«set.add» Builtin.Frozenset.oneOther
 simp only[List.isEmpty_nil,bind_assoc]
 unfold Builtin.Frozenset.addrOf setAdd
 refine wpAny_bind (wpAny_pure ?_)
 try dsimp only
 refine wpAny_bind (wpAny_pure ?_)
 try dsimp only
 refine wpAny_bind ?_
 refine wpAny_holding ?_
 refine wpAny_bind (wpAny_pyHash_str ?_)
 refine ST.add_txt (s:={ s with toks:=s.toks+1 }) z hz fun h' b hsb z'=>?_
 show wpAny _ _ (ret Value.none) _ _ _
 refine wpAny_pure ⟨_,rfl,.non,_,I.write (x:=a) (e:=a) (t':=s.toks+1) (by rw[hH];exact True.intro) (.inl rfl) (fun b q hb e=>(hsb.2 b hb).trans e) (let⟨o,_,_,_,S,_⟩:=z';⟨o,S.ho⟩) (Rs z'),rfl,q⟩
theorem Qp{Q:Value->Shared->Prop}{A:Around}{E:Value->Shared->Prop}{prog:Program}{w:World}
  (h:ST.WS w (s.heap.push { cls:=.type "set",dict:=none,data:=.set #[] 0 (.fresh 0 0 (!(w.params.followText "set-order"))) }) s.heap.objs.size [] ->
   Q (.ref s.heap.objs.size) { s with heap:=s.heap.push { cls:=.type "set",dict:=none,data:=.set #[] 0 (.fresh 0 0 (!(w.params.followText "set-order"))) } }):wpAny (model prog w) A (newSet (.type "set")) Q E s:=by
 unfold newSet setsByText
 refine wpAny_bind (wpAny_bind (wpAny_askSetting (wpAny_pure ?_)))
 dsimp only
 simp only[newObj]
 refine wpAny_bind (wpAny_alloc (wpAny_pure (h ⟨_,#[],0,_,⟨Heap.get?_push_size _ rfl,⟨rfl,rfl,rfl⟩,rfl,by rfl,rfl,fun _=>rfl,by decide⟩,⟨fun e he=>by simp at he,by simp,List.nodup_nil⟩⟩)))
end
section
variable{X:Cx}{tg iter elt tg2 iter2:Expr}{g g2:TG}{tc tc2:TT}{te:TE}{ifs ifs2:List Expr}{scope:Scope}{cl:List (Str×Addr)}{N':List Str}{cap:List (Option Nat)}{pos:Pos}{wi wi2:TI}
noncomputable def Ff(w:World)(D:Addr)(te:TE):TEm:=fun σ H Q=>te σ H fun y H1=>∃l k,y = .str k/\H1 D=some (Dm w D l)/\l.length+1<4096/\Q σ (upd H1 D (Dm w D (Pj l k)))
theorem Pt{D:Addr}(hxe:X.xe=fun _ _=>False)(he:PE X elt te):PEm X (emS elt (.ref D) X.env) (Ff X.w D te):=by
 intro pins s σ H Q k F E I h hk
 unfold emS
 refine wpAny_bind (wpAny_bind (wpAny_mono (Bh hxe (he pins s σ H _ I h)) (fun u s1 ⟨y,H1,I1,r1,l,kk,e1,e2,z1,q1⟩=>?_) fun _ _ z=>z))
 subst e1
 refine wpAny_bind (wpAny_standAt (wpAny_bind (wpAny_mono (Bh hxe (Uv pins s1 σ H1 (.ref D) [.str kk] (.ref D) [u] (fun v H2=>v = .non/\Q σ H2) I1 rfl (.cons r1 .nil) ⟨D,l,kk,rfl,rfl,e2,z1,rfl,q1⟩)) (fun v s2 ⟨y2,H2,I2,r2,_,q2⟩=>?_) fun _ _ z=>z)))
 exact wpAny_pure (hk s2 σ H2 I2 q2)
theorem Tg{D:Addr}(hc:X.calm=true)(hxe:X.xe=fun _ _=>False)(hi:PI X tg2 iter2 wi2)(hg:PG X tg2 g2)(ht:PTs X ifs2 tc2)(he:PE X elt te)(hs:∀x,foldedSetIterable iter2 X.env x=pure x) :
  PEm X (emN (.SetComp elt [⟨tg,iter,ifs,0⟩,⟨tg2,iter2,ifs2,0⟩] scope pos) iter2 1 (.ref D) X.env) (Zx wi2 fun J σ H Q=>Aq g2 tc2 (Ff X.w D te) J σ H Q):=by
 intro pins s σ H Q k F E I h hk
 unfold emN
 have h0:=hi pins s σ H _ I h
 rw[hxe]at h0
 refine wpAny_bind (wpAny_mono h0 (fun v s1 h1=>?_) fun _ _ z=>z.elim)
 refine wpAny_bind (wpAny_standAt (wpAny_bind (wpAny_of_eq (hs v) (wpAny_bind (wpAny_holding (wpAny_mono h1 (fun itv s2 h2=>?_) fun _ _ z=>z.elim))))))
 obtain⟨it,fp,tn,J,H2,eit,I2,T,st2,f2,R2⟩:=h2
 subst eit
 refine wpAny_bind (wpAny_runOwn ?_)
 refine S0 (X:=X) (e:=.SetComp elt [⟨tg,iter,ifs,0⟩,⟨tg2,iter2,ifs2,0⟩] scope pos) (d:=1) (tg:=tg2) (iter:=iter2) (ifs:=ifs2) rfl rfl (gs:=[⟨tg,iter,ifs,0⟩,⟨tg2,iter2,ifs2,0⟩]) rfl rfl T st2 ?_
 exact O9 (X:=X) rfl rfl hc hxe (Kc elt tg iter tg2 iter2 ifs ifs2 scope pos _ _ _) hg ht (Pt hxe he) T I2 st2 f2 R2 fun s' σ' H' I' q'=>hk s' σ' H' I' q'
theorem Tf(S:CScope X scope cl N' cap)(hc:X.calm=true)(hi:PI X tg iter wi)
  (hb:∀(pins:List (Addr×Obj)) (ex:List Addr) (s3:Shared) (H3:Hp),PG (cxC X scope cl N' pins ex s3 H3) tg g/\PTs (cxC X scope cl N' pins ex s3 H3) ifs tc/\PI (cxC X scope cl N' pins ex s3 H3) tg2 iter2 wi2 /\
   PG (cxC X scope cl N' pins ex s3 H3) tg2 g2/\PTs (cxC X scope cl N' pins ex s3 H3) ifs2 tc2/\PE (cxC X scope cl N' pins ex s3 H3) elt te)
  (hs:∀x,foldedSetIterable iter X.env x=pure x:=by intro _;rfl) (hs2:∀env x,foldedSetIterable iter2 env x=pure x:=by intro _ _;rfl) :
  PE X (.SetComp elt [⟨tg,iter,ifs,0⟩,⟨tg2,iter2,ifs2,0⟩] scope pos) (t9 wi (fun D=>Dm X.w D []) cap fun D J σ H Q=>Aq g tc (Zx wi2 fun J σ H Q=>Aq g2 tc2 (Ff X.w D te) J σ H Q) J σ H Q):=by
 refine Cu (newAcc:=newSet (.type "set")) (p2:=firstIterPos [⟨tg,iter,ifs,0⟩,⟨tg2,iter2,ifs2,0⟩] pos) rfl (fun D=>Dm X.w D []) hs S hc hi (fun pins s σ H Q E I h=>?_) (fun pins ex s3 H3 D it fp tn J σ s H Q R T I st hf h hR=>?_) (fun _ _ _=>rfl) (fun _ _ _=>rfl) (fun E Q s h=>h)
 ·refine Qp fun z=>h _ (I.laid (t':=s.toks) (fun b o e=>Heap.get?_push_of_some _ e) (Nat.le_refl _) (Rs z)) fun b ob e=>Heap.get?_push_of_some _ e
 ·obtain⟨b1,b2,b3,b4,b5,b6⟩:=hb pins ex s3 H3
  exact O9 (X:=cxC X scope cl N' pins ex s3 H3) rfl rfl hc rfl (Js elt tg iter tg2 iter2 ifs ifs2 scope pos _ _ _) b1 b2 (Tg (X:=cxC X scope cl N' pins ex s3 H3) hc rfl b3 b4 b5 b6 (hs2 _)) T I st hf h hR
end
theorem Inv.drawn{X:Cx}{pins:List (Addr×Obj)}{σ:St}{H:Hp}{s:Shared}(I:Inv X pins σ H s)(d:Drawn):Inv X pins σ H { s with drawn:=d } :=
 ⟨I.ok,I.os,I.bare,I.base,I.loc,I.cell,I.free,I.freeC,I.pin,I.hok,I.len⟩
section
variable{X:Cx}
theorem Fp(hc:X.calm=true):G5 X (.builtin "sorted") (fun xs H Q=>∃(p:Addr) (ss:List Str),xs = [.ref p]/\H p=some (Dm X.w p ss)/\∀(l:Addr) (ss':List Str),H l=none->ss'.Perm ss->ss'.Pairwise leS->Q (.ref l) (upd H l (.lst (ss'.map V.str)))):=by
 intro pins s σ H xs us Q I r h
 obtain⟨p,ss,rfl,hq,q⟩:=h
 obtain⟨u,rfl,ru⟩:=U9 r
 cases ru
 obtain⟨o,es,ep,t,S,T⟩:=I.setw hq
 refine TS.sorted_gen (ST.collect_set (show X.A.in1.handled=none from I.ok.hd hc) S fun s1 its k1 g1 o1 tk1 hpi=>?_)
 have hS:∀v∈its,∃x tk,v=Value.str x tk:=fun v hv=>by
  obtain⟨e,he,rfl⟩:=List.mem_map.mp (hpi.mem_iff.mp hv)
  obtain⟨x,tk,rfl⟩:=T.el e he
  exact⟨x,tk,rfl⟩
 have hstr:StrsAre its (its.map strOf):=by
  have:∀l:List Value,(∀v∈l,∃x tk,v=Value.str x tk)->StrsAre l (l.map strOf):=by
   intro l
   induction l with
   | nil=>exact fun _=>.nil
   | cons v r ih =>
    intro h
    obtain⟨x,tk,rfl⟩:=h v (List.mem_cons_self ..)
    exact .cons _ _ (ih fun u hu=>h u (List.mem_cons_of_mem _ hu))
  exact this its hS
 have hlen:its.length=es.size:=by rw[hpi.length_eq,List.length_map,Array.length_toList]
 have hfew:=S.few
 have hss:(its.map strOf).Perm ss:=by
  refine(hpi.map strOf).trans ?_
  rw[List.map_map]
  refine List.Perm.trans (List.Perm.of_eq ?_) T.pm
  refine List.map_congr_left fun e he=>?_
  obtain⟨x,tk,rfl⟩:=T.el e he
  rfl
 refine⟨o1,by rw[sizeLine_eq];omega,strKind,oneType',fun s2 _=>TS.keys_strs hstr,fun out h' e ho k hg=>?_⟩
 obtain⟨hp,hs⟩:=ho
 have hm:∀v∈out.toList,∃x t,v = .str x t:=fun v hv=>hS v (hp.mem_iff.mp hv)
 have hv:Vals ((out.toList.map strOf).map V.str) out.toList:=by
  have:∀us:List Value,(∀v∈us,∃x t,v = .str x t)->Vals ((us.map strOf).map V.str) us:=by
   intro us
   induction us with
   | nil=>exact fun _=>.nil
   | cons v r ih =>
    intro h
    obtain⟨x,t,rfl⟩:=h v (List.mem_cons_self ..)
    exact .cons ⟨t,rfl⟩ (ih fun u hu=>h u (List.mem_cons_of_mem _ hu))
  exact this _ hm
 have hperm:(out.toList.map strOf).Perm ss:=(hp.map strOf).trans hss
 have hpw:(out.toList.map strOf).Pairwise leS:=by
  rw[List.pairwise_map]
  refine(List.Pairwise.and_mem.mp hs).imp fun{u v} ⟨hu,hv',q⟩=>?_
  obtain⟨x,t,rfl⟩:=hm u hu
  obtain⟨y,t',rfl⟩:=hm v hv'
  have q':decide (y.cps.toList<x.cps.toList)=false:=q
  exact of_decide_eq_false q'
 have k0:∀b o,s.heap.get? b=some o->h'.get? b=some o:=fun b o eb=>k b o (k1 b o eb)
 have hge:s.heap.objs.size<=s1.heap.objs.size:=Nat.le_of_lt tk1
 have hn:H s1.heap.objs.size=none:=I.hok.fresh hge
 obtain⟨h1,g',d',t',o'⟩:=s1
 have eo:o'=s.os:=o1
 have eg:g'=s.gens:=g1
 subst eo;subst eg
 refine⟨.ref h1.objs.size,upd H h1.objs.size (.lst ((out.toList.map strOf).map V.str)),?_,rfl,q _ _ hn hperm hpw⟩
 exact(I.laid (a:=h1.objs.size) (o:=.lst ((out.toList.map strOf).map V.str)) (t':=t') k0 hge ⟨by rw[List.length_map,List.length_map,hp.length_eq,sizeLine_eq];omega,out.toList,e,hv,by simpa using hg⟩).drawn d'
end
noncomputable def Kx(P:Program)(w:World)(a:Addr)(ks:List (List Key×Addr)):HO:=.ext fun h=>ST.TSet (D8 P w) h a ks
noncomputable def Jj(H:Hp)(ks:List (List Key×Addr)):Prop:=∀q∈ks,H q.2=some (.tup (q.1.map kV))
section
variable{X:Cx}{pins:List (Addr×Obj)}{σ:St}{H:Hp}{s:Shared}{a:Addr}{ks:List (List Key×Addr)}
theorem Jn(P:Program)(w:World):ST.Flat (D8 P w):=fun v ⟨x,h⟩=>(D8 P w).byValue x v h
theorem Qd(P:Program)(w:World):ST.Scan (D8 P w):=fun v ⟨x,h⟩=>by
 rcases E7 (show Dp x v=true from h)with⟨i,t,_,rfl⟩ | ⟨y,t,_,rfl⟩<;>rfl
theorem Sk{P:Program}{w:World}{H:Hp}{h:Heap}(z:ST.TSet (D8 P w) h a ks):ObjOk P w H h a (Kx P w a ks) :=
 ⟨z,let⟨o,_,_,_,e,_⟩:=z;⟨o,e⟩,fun h1 h2 ⟨o,es,ep,t,e,r⟩ k=>⟨o,es,ep,t,k o e,r⟩⟩
theorem Inv.sett(I:Inv X pins σ H s)(e:H a=some (Kx X.prog X.w a ks)):ST.TSet (D8 X.prog X.w) s.heap a ks:=by
 obtain⟨z,_⟩:=(show ObjOk X.prog X.w H s.heap a (Kx X.prog X.w a ks)from I.hok a _ e)
 exact z
theorem Ks:G5 X (.type "set") (fun xs H Q=>xs = []/\∀p,H p=none->Q (.ref p) (upd H p (Kx X.prog X.w p []))):=by
 intro pins s σ H xs us Q I r h
 obtain⟨rfl,q⟩:=h
 cases r
 refine call_set_0 fun led=>⟨.ref s.heap.objs.size,_,I.laid (t':=s.toks) (fun b o e=>Heap.get?_push_of_some _ e) (Nat.le_refl _) (Sk ?_),rfl,q _ (I.hok.fresh (Nat.le_refl _))⟩
 exact⟨_,#[],0,_,Heap.get?_push_size _ rfl,⟨rfl,rfl,rfl⟩,rfl,.refl _,⟨rfl,rfl,.inl rfl,by show 0*5<7*3;decide⟩⟩
noncomputable def zAy(P:Program)(w:World):R2:=fun x y H Q=>∃a p ks k,y = .ref a/\x = .ref p/\H a=some (Kx P w a ks)/\H p=some (.tup (k.map kV))/\Jj H ks/\(∀q∈ks,q.1≠k)/\Q (.bl false) H
theorem Ku(hu:X.A.units+1<cLine):OpR X (compareOp .In) (zAy X.prog X.w):=by
 intro pins s σ H x y v u Q I rx ry h
 obtain⟨a,p,ks,k,rfl,rfl,hH,hp,ht,hn,q⟩:=h
 cases ry
 cases rx
 exact ST.in_free (neg:=false) hu (Jn _ _) (I.sett hH) (fun z hz=>Bg I.hok (ht z hz)) (Bg I.hok hp) hn ⟨.bl false,H,I.tok _,rfl,q⟩
noncomputable def Xk(P:Program)(w:World):V->List V->Hp->VK->Prop:=fun x vs H Q=>∃a p ks k,x = .ref a/\vs = [.ref p]/\H a=some (Kx P w a ks)/\H p=some (.tup (k.map kV))/\Jj H ks/\(∀q∈ks,q.1≠k)/\ks.length+1<=300/\Q .non (upd H a (Kx P w a (ks ++ [(k,p)])))
theorem Tl(hu:X.A.units+1<cLine):MtM X "set.add" (Xk X.prog X.w):=by
 intro pins s σ H x vs v us Q I rx rv h
 obtain⟨a,p,ks,k,rfl,rfl,hH,hp,ht,hn,hl,q⟩:=h
 cases rx
 obtain⟨u,rfl,ru⟩:=rv.one
 cases ru
 refine ST.call_add hu (Jn _ _) (Qd _ _) (I.sett hH) (fun z hz=>Bg I.hok (ht z hz)) (Bg I.hok hp) hn hl fun h' hs z=>?_
 exact⟨.non,_,I.write (x:=a) (e:=a) (by rw[hH];exact True.intro) (.inl rfl) (fun b q hb e=>(hs.2 b hb).trans e) (let⟨o,_,_,_,e,_⟩:=z;⟨o,e⟩) (Sk z),rfl,q⟩
end
section
variable{X:Cx}{tg:Expr}
noncomputable def Yp(K:PySem.W.Frag)(tl:TE):TI:=fun σ H R=>tl σ H fun x H1=>∃a,x = .ref a/\(((∃xs,SqL K H1 a xs)/\R (Itl K a) H1)\/((∃xs,SqT K H1 a xs)/\R (Itt K a) H1))
theorem Yg{l:Expr}{tl:TE}(hl:PE X l tl):PI X tg l (Yp X.K tl):=by
 intro pins s σ H R I h
 refine thn (hl pins s σ H _ I h) fun v s1 ⟨x,H1,I1,r1,q1⟩=>?_
 obtain⟨a,e,q1⟩:=q1
 subst e
 cases r1
 have fin:∀b,b∈[s1.heap.objs.size]->p8 X pins H1 b:=fun b hb=>by
  have e:b=s1.heap.objs.size:=by simpa using hb
  subst e
  exact I1.fpOk (Nat.le_refl _) (I1.hok.fresh (Nat.le_refl _))
 rcases q1 with⟨⟨xs,hq⟩,q⟩ | ⟨⟨xs,hq⟩,q⟩
 ·obtain⟨its,rv,p,hz⟩:=I1.list hq
  refine wpAny_pyIter_list p.isList ?_
  exact⟨s1.heap.objs.size,[s1.heap.objs.size],_,_,H1,rfl,I1.kept (t':=s1.toks) fun b o e=>Heap.get?_push_of_some _ e,En a _,⟨_,Heap.get?_push_size _ rfl,rfl,rfl⟩,fin,q⟩
 ·obtain⟨its,rv,p,hz⟩:=I1.tuple hq
  refine wpAny_pyIter_tuple (show s1.heap.IsTuple a its.toArray from p) ?_
  exact⟨s1.heap.objs.size,[s1.heap.objs.size],_,_,H1,rfl,I1.kept (t':=s1.toks) fun b o e=>Heap.get?_push_of_some _ e,Bp a _,⟨_,Heap.get?_push_size _ rfl,rfl,rfl⟩,fin,q⟩
end
section
variable{X:Cx}
theorem Mz:G5 X (.builtin "isinstance") (fun xs H Q=>∃x n t b,xs = [x,.ty n]/\TyOf X.K H x t/\PySem.W.kitOne X.K t (.type n)=some b/\Q (.bl b) H):=by
 intro pins s σ H xs us Q I r h
 obtain⟨x,n,t,b,rfl,ht,he,q⟩:=h
 obtain⟨u,v,rfl,ru,rv⟩:=r.two
 cases rv
 exact Lq I ru ht he fun tk=>⟨.bl b,H,I.tok _,rfl,q⟩
end
mutual
noncomputable def Rp(K:PySem.W.Frag)(H:Hp):PyData->V->Prop
 | .none,v=>v = .non
 | .bool b,v=>v = .bl b
 | .int i,v=>v = .int i
 | .str x,v=>v = .str x
 | .list ds,v=>∃a xs,v = .ref a/\SqL K H a xs/\Rps K H ds xs
 | .tuple ds,v=>∃a xs,v = .ref a/\SqT K H a xs/\Rps K H ds xs
 | .dict _,_=>False
noncomputable def Rps(K:PySem.W.Frag)(H:Hp):List PyData->List V->Prop
 | [],vs=>vs = []
 | d::ds,vs=>∃v r,vs=v::r/\Rp K H d v/\Rps K H ds r
end
section
variable{X:Cx}{pins:List (Addr×Obj)}{σ:St}{H:Hp}{s:Shared}
mutual
theorem Inv.reads(I:Inv X pins σ H s):∀(d:PyData) (v:V) (u:Value),Rp X.K H d v->RelV v u->∃as,Reads s.heap u d as
 | .none,v,u,h,r=>by
  cases(show v = .non by simpa [Rp] using h)
  cases r
  exact⟨_,.none⟩
 | .bool b,v,u,h,r=>by
  cases(show v = .bl b by simpa [Rp] using h)
  cases r
  exact⟨_,.bool b⟩
 | .int i,v,u,h,r=>by
  cases(show v = .int i by simpa [Rp] using h)
  obtain⟨t,rfl⟩:=r
  exact⟨_,.int i t⟩
 | .str x,v,u,h,r=>by
  cases(show v = .str x by simpa [Rp] using h)
  obtain⟨t,rfl⟩:=r
  exact⟨_,.str x t⟩
 | .list ds,v,u,h,r=>by
  obtain⟨a,xs,e,hq,hs⟩:=(show ∃a xs,v=V.ref a/\SqL X.K H a xs/\Rps X.K H ds xs by simpa [Rp] using h)
  subst e
  cases r
  obtain⟨its,rv,⟨o,n,e,hc,hd,hda⟩,_⟩:=I.list hq
  obtain⟨as,z⟩:=I.readsAll ds xs its hs rv
  exact⟨_,.list e hc hda (by simpa using z)⟩
 | .tuple ds,v,u,h,r=>by
  obtain⟨a,xs,e,hq,hs⟩:=(show ∃a xs,v=V.ref a/\SqT X.K H a xs/\Rps X.K H ds xs by simpa [Rp] using h)
  subst e
  cases r
  obtain⟨its,rv,⟨o,e,hc,n,hda⟩,_⟩:=I.tuple hq
  obtain⟨as,z⟩:=I.readsAll ds xs its hs rv
  exact⟨_,.tuple e hc hda (by simpa using z)⟩
 | .dict _,v,u,h,r=>by simp[Rp]at h
theorem Inv.readsAll(I:Inv X pins σ H s):∀(ds:List PyData) (vs:List V) (us:List Value),Rps X.K H ds vs->Vals vs us->∃as,ReadsAll s.heap us ds as
 | [],vs,us,h,r=>by
  cases(show vs = [] by simpa [Rps] using h)
  cases r
  exact⟨_,.nil⟩
 | d::ds,vs,us,h,r=>by
  obtain⟨v,vr,e,h1,h2⟩:=(show ∃v r,vs=v::r/\Rp X.K H d v/\Rps X.K H ds r by simpa [Rps] using h)
  subst e
  cases r with
  | cons r1 r2 =>
   obtain⟨as,z⟩:=I.reads d v _ h1 r1
   obtain⟨bs,z'⟩:=I.readsAll ds vr _ h2 r2
   exact⟨_,.cons z z'⟩
end
noncomputable def Pl(d:PyData):Prop:=d.canLay0=true/\d.depth<=50
noncomputable def Vh(K:PySem.W.Frag):R2:=fun x y H Q=>∃d e,Rp K H d x/\Rp K H e y/\Pl d/\Pl e/\Q (.bl (PyData.eqv d e)) H
noncomputable def Zj(K:PySem.W.Frag):R2:=fun x y H Q=>∃d e,Rp K H d x/\Rp K H e y/\Pl d/\Pl e/\Q (.bl (!PyData.eqv d e)) H
theorem Vp(hu:X.A.units+64<cLine):OpR X (compareOp .Eq) (Vh X.K):=by
 intro pins s σ H x y v u Q I rx ry h
 obtain⟨d,e,h1,h2,p1,p2,q⟩:=h
 obtain⟨as,z1⟩:=I.reads d x v h1 rx
 obtain⟨bs,z2⟩:=I.reads e y u h2 ry
 exact PySem.SeqAt.compareEq_reads z1 z2 p1.1 p2.1 (by have:=p1.2;have:=p2.2;omega) ⟨.bl (PyData.eqv d e),H,I,rfl,q⟩
theorem Wm(hu:X.A.units+64<cLine):OpR X (compareOp .NotEq) (Zj X.K):=by
 intro pins s σ H x y v u Q I rx ry h
 obtain⟨d,e,h1,h2,p1,p2,q⟩:=h
 obtain⟨as,z1⟩:=I.reads d x v h1 rx
 obtain⟨bs,z2⟩:=I.reads e y u h2 ry
 exact PySem.SeqAt.compareNe_reads z1 z2 p1.1 p2.1 (by have:=p1.2;have:=p2.2;omega) ⟨.bl (!PyData.eqv d e),H,I,rfl,q⟩
noncomputable def Uh(K:PySem.W.Frag)(neg:Bool):R2:=fun x y H Q=>∃d ds,Rp K H d x/\(Rp K H (.list ds) y\/Rp K H (.tuple ds) y)/\Pl d/\PyData.canLayAll0 ds=true/\Q (.bl (if neg then !(ds.any fun z=>PyData.eqv z d)else ds.any fun z=>PyData.eqv z d)) H
theorem Vz(hu:X.A.units+64<cLine):OpR X (compareOp .In) (Uh X.K false):=by
 intro pins s σ H x y v u Q I rx ry h
 obtain⟨d,ds,h1,h2,p1,p2,q⟩:=h
 obtain⟨as,z1⟩:=I.reads d x v h1 rx
 have hu':X.A.units+1+min (PyData.depthAll ds) d.depth<cLine:=by have:=p1.2;omega
 rcases h2 with h2 | h2
 ·obtain⟨bs,z2⟩:=I.reads (.list ds) y u h2 ry
  exact PySem.SeqAt.in_list_reads z2 z1 p2 p1.1 hu' ⟨.bl _,H,I,rfl,q⟩
 ·obtain⟨bs,z2⟩:=I.reads (.tuple ds) y u h2 ry
  exact PySem.SeqAt.in_tuple_reads z2 z1 p2 p1.1 hu' ⟨.bl _,H,I,rfl,q⟩
theorem Lp(hu:X.A.units+64<cLine):OpR X (compareOp .NotIn) (Uh X.K true):=by
 intro pins s σ H x y v u Q I rx ry h
 obtain⟨d,ds,h1,h2,p1,p2,q⟩:=h
 obtain⟨as,z1⟩:=I.reads d x v h1 rx
 have hu':X.A.units+1+min (PyData.depthAll ds) d.depth<cLine:=by have:=p1.2;omega
 rcases h2 with h2 | h2
 ·obtain⟨bs,z2⟩:=I.reads (.list ds) y u h2 ry
  exact PySem.SeqAt.notIn_list_reads z2 z1 p2 p1.1 hu' ⟨.bl _,H,I,rfl,q⟩
 ·obtain⟨bs,z2⟩:=I.reads (.tuple ds) y u h2 ry
  exact PySem.SeqAt.notIn_tuple_reads z2 z1 p2 p1.1 hu' ⟨.bl _,H,I,rfl,q⟩
end
section
variable{X:Cx}
theorem Vals.insert{xs:List V}{us:List Value}{x:V}{u:Value}(h:Vals xs us)(r:RelV x u)(k:Nat):Vals (xs.take k++x::xs.drop k) (us.take k++u::us.drop k):=(h.take k).append (.cons r (h.drop k))
noncomputable def Ut:V->List V->Hp->VK->Prop:=fun x vs H Q=>∃l xs i k y,x = .ref l/\vs = [.int i,y]/\i =((k:Nat):Int)/\H l=some (.lst xs)/\k<=xs.length/\xs.length<sizeLine/\Q .non (upd H l (.lst (xs.take k++y::xs.drop k)))
theorem Yz{k:Nat}{i:Int}(e:i =(k:Int))(h:k<=sizeLine):¬(!Builtin.List.listFitsIndex i)=true:=by
 rw[sizeLine_eq]at h
 have h1:-(2^63:Int)<=i:=by omega
 have h2:i<2^63:=by omega
 have:=fitsIndex_both h1 h2
 simpa using this
theorem Mm:MtM X "list.insert" Ut:=by
 intro pins s σ H x vs v us Q I rx rv h
 obtain⟨l,xs,i,k,y,rfl,rfl,hi,hH,hk,hz,q⟩:=h
 cases rx
 obtain⟨u1,u2,rfl,⟨t,rfl⟩,ru⟩:=rv.two
 obtain⟨z,its,n,r,hl,e⟩:=I.lstM hH
 have h0:k<=sizeLine:=by omega
 have h1:=Yz hi h0
 have h2:its.toArray.size<=sizeLine:=by rw[List.size_toArray];omega
 have hM:=@PySem.AutoListH.list_insert_list_int_val_1 l its.toArray n i t u2 h1 h2
 refine call_meets F.slot_list_insert ⟨_,e,rfl⟩ F.entry_list_insert (F.args_list_insert_3 _ _ _) hM ⟨e,?_⟩
 refine⟨.non,_,I.lset (its':=its.take k++u2::its.drop k) hH e ?_ (r.insert ru k) ?_,rfl,q⟩
 ·have hmin:min k its.length=k:=by omega
  have hn:¬((k:Int)<0):=by omega
  subst hi
  have hneg:¬((k:Int)+0<0):=by omega
  have e3:List.take (its.length-k) (List.drop k its)=List.drop k its:=List.take_of_length_le (by simp)
  simp[hmin,hn,e3]
 ·rw[List.length_append,List.length_cons,List.length_take,List.length_drop]
  omega
noncomputable def Mc(K:PySem.W.Frag):V->List V->Hp->VK->Prop:=fun x vs H Q=>∃(l:Addr) (ss:List Str) (y:Str) (j:Nat),x = .ref l/\vs = [.str y]/\SqL K H l (ss.map V.str)/\ss[j]?=some y/\(∀m,m<j->ss[m]?≠some y)/\Q (.int (j:Nat)) H
theorem Q4{ss:List Str}{us:List Value}(h:Vals (ss.map V.str) us){i:Nat}(hi:i<us.length):∃x t,ss[i]?=some x/\us[i] = .str x t:=by
 have hl:=h.length
 rw[List.length_map]at hl
 obtain⟨x,hx⟩:∃x,ss[i]?=some x:=⟨ss[i]'(by omega),List.getElem?_eq_getElem (by omega)⟩
 obtain⟨u,hu,t,rfl⟩:=h.get (i:=i) (x:=.str x) (by rw[List.getElem?_map,hx];rfl)
 refine⟨x,t,hx,?_⟩
 have:=List.getElem?_eq_getElem hi
 rw[hu]at this
 exact(Option.some.inj this).symm
theorem Lj:MtM X "list.index" (Mc X.K):=by
 intro pins s σ H x vs v us Q I rx rv h
 obtain⟨l,ss,y,j,rfl,rfl,hq,hj,hno,q⟩:=h
 cases rx
 obtain⟨u,rfl,⟨tk,rfl⟩⟩:=rv.one
 obtain⟨its,r,⟨o,n,e,hc,hd,hda⟩,hz⟩:=I.list hq
 have hlen:=r.length
 rw[List.length_map]at hlen hz
 have hjl:j<its.length:=by
  have:=(List.getElem?_eq_some_iff.mp hj).1
  omega
 obtain⟨cls,dd,data,sl⟩:=o
 simp only at hc hd hda
 subst hc hda
 let ev:Value->Bool:=fun v=>match v with | .str x _=>x == y | _=>false
 have hM:=PySem.SeqAt.list_indexAt l its.toArray n dd sl (.str y tk) ev j (by simpa using hjl) (by rw[sizeLine_eq]at hz;omega) ?_ ?_
 ·refine call_meets F.slot_list_index ⟨_,e,rfl⟩ F.entry_list_index (F.args_list_index_2 _ _) hM ⟨e,?_,?_⟩
  ·intro v hv
   have hv':v∈its:=by simpa using hv
   obtain⟨i,hi,rfl⟩:=List.getElem_of_mem hv'
   obtain⟨x,t,_,e2⟩:=Q4 r hi
   rw[e2]
   exact PySem.SeqAt.EqAt.str_str x t y tk
  ·exact⟨.int (j:Nat),H,I.tok _,⟨_,rfl⟩,q⟩
 ·obtain⟨x,t,e1,e2⟩:=Q4 r hjl
  rw[hj]at e1
  cases e1
  show ev (its.toArray[j]'(by simpa using hjl))=true
  rw[show its.toArray[j]'(by simpa using hjl)=its[j]from by simp,e2]
  exact beq_self_eq_true y
 ·intro m hm hmj
  have hm':m<its.length:=by simpa using hm
  obtain⟨x,t,e1,e2⟩:=Q4 r hm'
  show ev (its.toArray[m]'hm)=false
  rw[show its.toArray[m]'hm=its[m]from by simp,e2]
  show(x == y)=false
  rw[beq_eq_false_iff_ne]
  rintro rfl
  exact hno m hmj e1
noncomputable def Rx:V->List V->Hp->VK->Prop:=fun x vs H Q=>∃z y ps,x = .str z/\vs = [.str y]/\(decide (z.length<y.length)||decide (Builtin.Str.strKind z<Builtin.Str.strKind y))=false/\(y.length == 0)=false /\
 (Builtin.Str.occurrences z y 0 z.length (z.length+1)).isEmpty=false/\z.length<=4000/\Builtin.Str.partsBetween z (Builtin.Str.occurrences z y 0 z.length (z.length+1)) y.length=ps/\ps.length<=4000/\∀l,H l=none->Q (.ref l) (upd H l (.lst (ps.map V.str)))
theorem Fb:∀(ps:List Str) (tk:Nat),Vals (ps.map V.str) (strsFrom tk ps)
 | [],_=>.nil
 | _::r,tk=>.cons ⟨tk,rfl⟩ (Fb r (tk+1))
theorem Pc:MtM X "str.split" Rx:=by
 intro pins s σ H x vs v us Q I rx rv h
 obtain⟨z,y,ps,rfl,rfl,h1,h2,h3,h4,rfl,h6,q⟩:=h
 obtain⟨t,rfl⟩:=rx
 obtain⟨u,rfl,⟨tk,rfl⟩⟩:=rv.one
 have hz:z.length<=sizeLine:=by rw[sizeLine_eq];omega
 have hp:(Builtin.Str.partsBetween z (Builtin.Str.occurrences z y 0 z.length (z.length+1)) y.length).length<=sizeLine:=by rw[sizeLine_eq];omega
 refine call_meets F.slot_str_split (typeIs_str _ _ _) F.entry_str_split (F.args_str_split_2 _ _) (PySem.meets_str_split_sep z y t tk h1 h2 h3 hz hp) ?_
 exact⟨.ref s.heap.objs.size,_,I.lnew (Fb _ _) (by rw[List.length_map];exact hp),rfl,q _ I.fresh⟩
end
end L2
namespace L2
open PySem PySem.Spec PyProof.Rows
structure Fn(K:PySem.W.Frag)(mg:Str->Option Value)(x:Str)(st:Stmt)(ps:List Str) where
 f:Addr
 fd:FuncData
 F:Fun K x x st f fd
 b:Binds K fd ps []
 m:mg x=some (.ref f)
structure Mt(K:PySem.W.Frag)(C:Addr)(m qual:Str)(st:Stmt)(ps:List Str) where
 f:Addr
 fd:FuncData
 F:Fun K m qual st f fd
 b:Binds K fd ps []
 m:Meth K C m f
section
variable{X:Cx}
theorem C5{x:Str}{st:Stmt}{ps:List Str}{k:Nat}{sp:Sp}{e:Expr}{es:List Expr}{t:TA}{p pos:Pos}(D:Fn X.K X.mg x st ps)(G:FnOk X.prog X.w X.K X.mg X.base CX0 k D.f D.fd ps sp)(hr:Room k X.A)(ha:PA X (e::es) t)
  (hg:Gl X x:=by rfl) (hdb:(x ==("__debug__":Str))=false:=by decide) (hs:starEach (e::es) X.env =(false,eval e X.env)::starEach es X.env:=by rfl) (hpl:(backTo pos (starEach es X.env)).any (·.1)=false:=by rfl) :
  PE X (.Call (.Name x p) (e::es) [] pos) (Xm sp [] E0 t):=Uc G hr hg D.m D.F.kp D.b .nil Y7 ha hdb hs hpl
noncomputable def Li(P:Program)(w:World)(x:V)(H:Hp):Prop:=∃p,x = .ref p/\((∃l,H p=some (Kw P w p l))\/(∃l,H p=some (Dm w p l))\/∃ks,H p=some (Kx P w p ks))
theorem Vo{pins:List (Addr×Obj)}{σ:St}{H:Hp}{s:Shared}{x:V}{v:Value}(I:Inv X pins σ H s)(r:RelV x v)(ty:Li X.prog X.w x H):s.TypeIs v "set"/\∀a,v = .ref a->∃ob,s.heap.get? a=some ob/\ob.dict=none:=by
 obtain⟨p,rfl,h⟩:=ty
 cases r
 have z:∃o,s.heap.get? p=some o/\o.ExactSet:=by
  rcases h with⟨l,h⟩ | ⟨l,h⟩ | ⟨l,h⟩
  ·obtain⟨o,_,_,_,e,ex,_⟩:=I.set h
   exact⟨o,e,ex⟩
  ·obtain⟨o,_,_,_,S,_⟩:=I.setw h
   exact⟨o,S.ho,S.ex⟩
  ·obtain⟨o,_,_,_,e,ex,_⟩:=I.sett h
   exact⟨o,e,ex⟩
 obtain⟨o,e,ex⟩:=z
 refine⟨⟨o,e,ex.1⟩,fun a e2=>?_⟩
 cases e2
 exact⟨o,e,ex.2.1⟩
noncomputable def zAl(P:Program)(w:World)(r:V->List V->Hp->VK->Prop)(to:TE)(t:TA):TE:=fun σ H Q=>to σ H fun x H1=>Li P w x H1/\t σ H1 fun xs H2=>r x xs H2 Q
theorem Ve{o e:Expr}{to:TE}{t:TA}{apos cpos:Pos}{r:V->List V->Hp->VK->Prop}(hm:MtM X "set.add" r)(ho:PE X o to)(ha:PA X [e] t)
  (hbase:attributeBase o "add" X.env (eval o X.env)=eval o X.env:=by rfl)
  (hfew:((backTo cpos (starEach [e] X.env)).all (fun x=>!x.1) &&(backToKw cpos (keywordEach [] X.env)).all (fun x=>x.1.isSome)
   && decide ([e].length +([]:List Keyword).length +(if([]:List Keyword).isEmpty then 0 else 1)<30))=true:=by rfl)
  (hline:(apos.endLine == cpos.line)=true:=by rfl) (hs:starEach [e] X.env = [(false,eval e X.env)]:=by rfl) :
  PE X (.Call (.Attribute o "add" apos) [e] [] cpos) (zAl X.prog X.w r to t):=by
 intro pins s σ H Q I h
 refine wpAny_Call_method_late hbase hfew hline rfl (thn (ho pins s σ H _ I h) fun v s1 ⟨x,H1,I1,r1,ty,q1⟩=>?_)
 obtain⟨h1,h2⟩:=Vo I1 r1 ty
 refine⟨"set", "set.add",F.plainAttrs_set,F.slot_set_add,F.type_set_add,h1,h2,?_⟩
 have hA:=ha cpos pins s1 σ H1 _ I1 q1
 rw[hs]at hA⊢
 refine Calls.callWith_builtin rfl (Calls.evalArgs_plain ?_)
 exact thn hA fun us s2 ⟨vs,H2,I2,r2,q2⟩=>hm pins s2 σ H2 x vs v us Q I2 r1 r2 q2
theorem Zf{x:Str}{i:Int}{pos:Pos}(h:∃t,X.mg x=some (.int i t))(hg:Gl X x:=by rfl)(hd:(x ==("__debug__":Str))=false:=by decide):PE X (.Name x pos) (tC (.int i)):=by
 obtain⟨t,e⟩:=h
 exact Gu hg e ⟨t,rfl⟩ hd
theorem zAc{x y:Str}{pos:Pos}(h:∃t,X.mg x=some (.str y t))(hg:Gl X x:=by rfl)(hd:(x ==("__debug__":Str))=false:=by decide):PE X (.Name x pos) (tC (.str y)):=by
 obtain⟨t,e⟩:=h
 exact Gu hg e ⟨t,rfl⟩ hd
theorem S5{x:Str}{n:String}{pos:Pos}(hm:X.mg x=none)(hv:bootBuiltins x=some (.type n))(hg:Gl X x:=by rfl)(hn:x≠ "__name__":=by decide)(hd:(x ==("__debug__":Str))=false:=by decide):PE X (.Name x pos) (tC (.ty n)) :=
 Tj hg hm hv rfl hn hd
theorem D6{x:Str}{id:String}{r:List V->Hp->VK->Prop}{e:Expr}{es:List Expr}{t:TA}{p pos:Pos}(hc:G5 X (.builtin id) r)(hm:X.mg x=none)(hv:bootBuiltins x=some (.builtin id))(ha:PA X (e::es) t)(hg:Gl X x:=by rfl)(hn:x≠ "__name__":=by decide)(hdb:(x ==("__debug__":Str))=false:=by decide)
  (hs:starEach (e::es) X.env =(false,eval e X.env)::starEach es X.env:=by rfl) (hpl:(backTo pos (starEach es X.env)).any (·.1)=false:=by rfl):PE X (.Call (.Name x p) (e::es) [] pos) (tCB r t):=Ph hc hg hm hv ha hn hdb hs hpl
theorem Hm{x:Str}{T:String}{r:List V->Hp->VK->Prop}{e:Expr}{es:List Expr}{t:TA}{p pos:Pos}(hc:G5 X (.type T) r)(hm:X.mg x=none)(hv:bootBuiltins x=some (.type T))(ha:PA X (e::es) t)(hg:Gl X x:=by rfl)(hn:x≠ "__name__":=by decide)(hdb:(x ==("__debug__":Str))=false:=by decide)
  (hs:starEach (e::es) X.env =(false,eval e X.env)::starEach es X.env:=by rfl) (hpl:(backTo pos (starEach es X.env)).any (·.1)=false:=by rfl):PE X (.Call (.Name x p) (e::es) [] pos) (tCB r t):=Oh hc hg hm hv ha hn hdb hs hpl
theorem K2{scope:Scope}{cl:List (Str×Addr)}{N':List Str}{cap:List (Option Nat)}(caps:Caps X scope cl N' cap)(cin:ClIn X cl)(clos:closureFor scope X.env=pure cl:=by rfl)(kind:scope.kind = .function:=by rfl)(nocell:∀y∈scope.names,y.2≠ .cell:=by decide +kernel)
  (loc:∀y∈scope.names,y.2 = .local->scope.names.lookup y.1=some .local:=by decide +kernel) (has:((relabel scope X.env).names.all fun y=>!(y.2 == .cell||y.2 == .free)||(cl.lookup y.1).isSome)=true:=by rfl):CScope X scope cl N' cap:=⟨kind,nocell,loc,clos,cin,has,caps⟩
theorem pgC{scope:Scope}{cl:List (Str×Addr)}{N':List Str}{pins:List (Addr×Obj)}{ex:List Addr}{s3:Shared}{H3:Hp}{x:Str}{pos:Pos}(i:Nat)(hN:N'.Nodup:=by decide +kernel)(hi:N'[i]?=some x:=by rfl)(hx:Loc (cxC X scope cl N' pins ex s3 H3).env.scope x:=by exact Or.inl rfl)
  (hf:(cxC X scope cl N' pins ex s3 H3).env.scope.names.lookup x=some .local:=by rfl):PG (cxC X scope cl N' pins ex s3 H3) (.Name x pos) (K7 i):=E1 (X:=cxC X scope cl N' pins ex s3 H3) hN hi hx (.inr hf)
end
theorem J3:bootBuiltins "len" = some (.builtin "len"):=by decide +kernel
theorem Fx:bootBuiltins "enumerate" = some (.type "enumerate"):=by decide +kernel
theorem Sa:bootBuiltins "min" = some (.builtin "min"):=by decide +kernel
theorem Yd:bootBuiltins "max" = some (.builtin "max"):=by decide +kernel
theorem Ri:bootBuiltins "abs" = some (.builtin "abs"):=by decide +kernel
theorem K3:bootBuiltins "sorted" = some (.builtin "sorted"):=by decide +kernel
theorem Rj:bootBuiltins "int" = some (.type "int"):=by decide +kernel
theorem Im:bootBuiltins "str" = some (.type "str"):=by decide +kernel
theorem Di:bootBuiltins "bool" = some (.type "bool"):=by decide +kernel
theorem U3:bootBuiltins "list" = some (.type "list"):=by decide +kernel
theorem V5:bootBuiltins "tuple" = some (.type "tuple"):=by decide +kernel
theorem Rn:bootBuiltins "set" = some (.type "set"):=by decide +kernel
theorem B9:bootBuiltins "isinstance" = some (.builtin "isinstance"):=by decide +kernel
theorem T6:bootBuiltins "all" = some (.builtin "all"):=by decide +kernel
noncomputable def KeepAt(a:Addr)(H0 H:Hp):Prop:=∀o,H0 a=some o->H a=some o
noncomputable def Sm(D:List Addr)(H H':Hp):Prop:=∀b o,H b=some o->b∉D->H' b=some o
theorem Same.at{H0 H:Hp}(h:Same H0 H)(a:Addr):KeepAt a H0 H:=fun o e=>h a o e
theorem Same.new{H:Hp}{p:Addr}{o:HO}(h:H p=none):Same H (upd H p o):=fun b u e=>by rw[B6 (B1 e h)];exact e
theorem Same.upd{H0 H:Hp}{p:Addr}{o:HO}(s:Same H0 H)(h:H0 p=none):Same H0 (upd H p o):=fun b u e=>by rw[B6 (B1 e h)];exact s b u e
theorem Same.sm{D:List Addr}{H H':Hp}(h:Same H H'):Sm D H H':=fun b o e _=>h b o e
theorem Sm.refl(D:List Addr)(H:Hp):Sm D H H:=fun _ _ e _=>e
theorem Sm.trans{D:List Addr}{H H1 H2:Hp}(a:Sm D H H1)(b:Sm D H1 H2):Sm D H H2:=fun c o h n=>b c o (a c o h n) n
theorem Sm.new{D:List Addr}{H H1:Hp}{p:Addr}{o:HO}(a:Sm D H H1)(h:H1 p=none):Sm D H (L2.upd H1 p o):=fun b u e n=>by
 have:=a b u e n
 rw[B6 (B1 this h)];exact this
theorem Sm.upd{D:List Addr}{H H1:Hp}{p:Addr}{o:HO}(a:Sm D H H1)(h:p∈D):Sm D H (L2.upd H1 p o):=fun b u e n=>by
 rw[B6 (show b≠p from fun z=>n (by rw[z];exact h))];exact a b u e n
theorem Sm.updN{D:List Addr}{H H1:Hp}{p:Addr}{o:HO}(a:Sm D H H1)(h:H p=none):Sm D H (L2.upd H1 p o):=fun b u e n=>by rw[B6 (B1 e h)];exact a b u e n
theorem Sm.at{D:List Addr}{H H':Hp}(h:Sm D H H'){a:Addr}(n:a∉D):KeepAt a H H':=fun o e=>h a o e n
theorem Sm.none{D:List Addr}{H H':Hp}(h:Sm D H H'){a:Addr}(n:a∉D)(e:H' a=Option.none):H a=Option.none:=by
 cases q:H a with
 | none=>rfl
 | some o=>rw[h a o q n]at e;cases e
theorem KeepAt.seqL{K:PySem.W.Frag}{H H':Hp}{a:Addr}{xs:List V}(e:KeepAt a H H')(h:SqL K H a xs):SqL K H' a xs:=by
 rcases h with(h | ⟨o,h⟩) | h
 ·exact .inl (.inl (e _ h))
 ·exact .inl (.inr ⟨o,e _ h⟩)
 ·exact .inr h
theorem KeepAt.seqT{K:PySem.W.Frag}{H H':Hp}{a:Addr}{xs:List V}(e:KeepAt a H H')(h:SqT K H a xs):SqT K H' a xs:=by
 rcases h with(h | ⟨o,h⟩) | h
 ·exact .inl (.inl (e _ h))
 ·exact .inl (.inr ⟨o,e _ h⟩)
 ·exact .inr h
noncomputable def Sqs(K:PySem.W.Frag)(H:Hp)(a:Addr)(xs:List V):Prop:=SqL K H a xs\/SqT K H a xs
theorem KeepAt.seq{K:PySem.W.Frag}{H H':Hp}{a:Addr}{xs:List V}(e:KeepAt a H H')(h:Sqs K H a xs):Sqs K H' a xs:=h.imp e.seqL e.seqT
structure AsSeq(J:It)(xs:List V)(a:Addr)(H0:Hp):Prop where
 go:∀H i,KeepAt a H0 H->i<xs.length->J.go i H
 stop:∀H,KeepAt a H0 H->J.stop xs.length H
 yld:∀H i x H',KeepAt a H0 H->i<xs.length->J.yld i H x H'->H'=H/\xs[i]?=some x
theorem asL{K:PySem.W.Frag}{H0:Hp}{a:Addr}{xs:List V}(h:SqL K H0 a xs):AsSeq (Itl K a) xs a H0 :=
 ⟨fun H i k hi=>⟨xs,xs[i],k.seqL h,List.getElem?_eq_getElem hi⟩,fun H k=>⟨xs,k.seqL h,Nat.le_refl _⟩,fun H i x H' k hi ⟨e,y⟩=>⟨e,y xs (k.seqL h)⟩⟩
theorem asT{K:PySem.W.Frag}{H0:Hp}{a:Addr}{xs:List V}(h:SqT K H0 a xs):AsSeq (Itt K a) xs a H0 :=
 ⟨fun H i k hi=>⟨xs,xs[i],k.seqT h,List.getElem?_eq_getElem hi⟩,fun H k=>⟨xs,k.seqT h,Nat.le_refl _⟩,fun H i x H' k hi ⟨e,y⟩=>⟨e,y xs (k.seqT h)⟩⟩
theorem Xg{K:PySem.W.Frag}{H:Hp}{σ:St}{a:Addr}{xs:List V}{R:It->Hp->Prop}{i:Nat}(hv:σ[i]?=some (some (.ref a)))(h:Sqs K H a xs)(r:∀J,AsSeq J xs a H->R J H):Yp K (Hc i) σ H R:=by
 refine⟨_,hv,a,rfl,?_⟩
 rcases h with h | h
 ·exact .inl ⟨⟨xs,h⟩,r _ (asL h)⟩
 ·exact .inr ⟨⟨xs,h⟩,r _ (asT h)⟩
theorem o8{K:PySem.W.Frag}{o:Addr->HO}{cap:List (Option Nat)}{lp:Addr->It->St->Hp->(St->Hp->Prop)->Prop}{σ:St}{H:Hp}{Q:VK}{a:Addr}{xs:List V}{i:Nat}(hv:σ[i]?=some (some (.ref a)))(h:Sqs K H a xs)
  (r:∀J,AsSeq J xs a H->∀D,H D=none->lp D J (Ih cap σ) (upd H D (o D)) fun _ H2=>Q (.ref D) H2):t9 (Yp K (Hc i)) o cap lp σ H Q:=Xg hv h r
theorem Sx{J:It}{n:Nat}{g:TG}{tb:TS}{D:Ends}{σ:St}{H:Hp}(Pv:Nat->St->Hp->Prop)(h0:Pv 0 σ H)(hgo:∀i σ H,i<n->Pv i σ H->J.go i H)(hst:∀σ H,Pv n σ H->J.stop n H)
  (hs:∀i σ H x H',i<n->Pv i σ H->J.yld i H x H'->g x σ H' fun σ2 H2=>tb { D with nx:=Pv (i+1),ct:=Pv (i+1),bk:=D.nx } σ2 H2) (hd:∀σ H,Pv n σ H->D.nx σ H) :
  ∃W:Nat->Nat->St->Hp->Prop,(∃m,W 0 m σ H)/\∀i m σ H,W i m σ H ->
   (J.stop i H/\D.nx σ H)\/(J.go i H/\∃N:St->Hp->Prop,(∀σ' H',N σ' H'->∃m',m' < m/\W (i+1) m' σ' H')/\∀x H',J.yld i H x H'->g x σ H' fun σ2 H2=>tb { D with nx:=N,ct:=N,bk:=D.nx } σ2 H2):=by
 refine⟨fun i m σ H=>m=n-i/\i<=n/\Pv i σ H,⟨n,by simp,Nat.zero_le _,h0⟩,?_⟩
 rintro i m σ H ⟨rfl,hi,p⟩
 by_cases hlt:i<n
 ·exact .inr ⟨hgo i σ H hlt p,Pv (i+1),fun σ' H' p'=>⟨n-(i+1),by omega,rfl,hlt,p'⟩,fun x H' y=>hs i σ H x H' hlt p y⟩
 ·have e:i=n:=by omega
  subst e
  exact .inl ⟨hst σ H p,hd σ H p⟩
theorem Ym{J:It}{xs:List V}{a:Addr}{H0:Hp}(as:AsSeq J xs a H0){g:TG}{tb:TS}{D:Ends}{σ:St}{H:Hp}(Pv:Nat->St->Hp->Prop)(h0:Pv 0 σ H)(hk:∀i σ H,i<=xs.length->Pv i σ H->KeepAt a H0 H)
  (hs:∀i σ H x,xs[i]?=some x->Pv i σ H->g x σ H fun σ2 H2=>tb { D with nx:=Pv (i+1),ct:=Pv (i+1),bk:=D.nx } σ2 H2) (hd:∀σ H,Pv xs.length σ H->D.nx σ H) :
  ∃W:Nat->Nat->St->Hp->Prop,(∃m,W 0 m σ H)/\∀i m σ H,W i m σ H ->
   (J.stop i H/\D.nx σ H)\/(J.go i H/\∃N:St->Hp->Prop,(∀σ' H',N σ' H'->∃m',m' < m/\W (i+1) m' σ' H')/\∀x H',J.yld i H x H'->g x σ H' fun σ2 H2=>tb { D with nx:=N,ct:=N,bk:=D.nx } σ2 H2) :=
 Sx (n:=xs.length) Pv h0 (fun i σ H hi p=>as.go H i (hk i σ H (Nat.le_of_lt hi) p) hi) (fun σ H p=>as.stop H (hk _ σ H (Nat.le_refl _) p)) (fun i σ H x H' hi p y=>by
  obtain⟨rfl,e⟩:=as.yld H i x H' (hk i σ H (Nat.le_of_lt hi) p) hi y
  exact hs i σ _ x e p) hd
theorem Be{J:It}{n:Nat}{g:TG}{tc:TT}{em:TEm}{σ:St}{H:Hp}{Q:St->Hp->Prop}(Pv:Nat->St->Hp->Prop)(h0:Pv 0 σ H)(hgo:∀i σ H,i<n->Pv i σ H->J.go i H)(hst:∀σ H,Pv n σ H->J.stop n H)
  (hs:∀i σ H x H' (N:St->Hp->Prop),i<n->Pv i σ H->J.yld i H x H'->(∀σ' H',Pv (i+1) σ' H'->N σ' H')->g x σ H' fun σ2 H2=>tc σ2 H2 fun b H3=>if b=true then em σ2 H3 N else N σ2 H3)
  (hd:∀σ H,Pv n σ H->Q σ H):Aq g tc em J σ H Q:=by
 refine⟨fun i m σ H=>m=n-i/\i<=n/\Pv i σ H,⟨n,by simp,Nat.zero_le _,h0⟩,?_⟩
 rintro i m σ H ⟨rfl,hi,p⟩
 by_cases hlt:i<n
 ·exact .inr ⟨hgo i σ H hlt p,fun x H' y=>hs i σ H x H' _ hlt p y fun σ3 H4 p'=>⟨n-(i+1),by omega,rfl,hlt,p'⟩⟩
 ·have e:i=n:=by omega
  subst e
  exact .inl ⟨hst σ H p,hd σ H p⟩
theorem J4{J:It}{xs:List V}{a:Addr}{H0:Hp}(as:AsSeq J xs a H0){g:TG}{tc:TT}{em:TEm}{σ:St}{H:Hp}{Q:St->Hp->Prop}(Pv:Nat->St->Hp->Prop)(h0:Pv 0 σ H)(hk:∀i σ H,i<=xs.length->Pv i σ H->KeepAt a H0 H)
  (hs:∀i σ H x (N:St->Hp->Prop),xs[i]?=some x->Pv i σ H->(∀σ' H',Pv (i+1) σ' H'->N σ' H')->g x σ H fun σ2 H2=>tc σ2 H2 fun b H3=>if b=true then em σ2 H3 N else N σ2 H3)
  (hd:∀σ H,Pv xs.length σ H->Q σ H):Aq g tc em J σ H Q :=
 Be (n:=xs.length) Pv h0 (fun i σ H hi p=>as.go H i (hk i σ H (Nat.le_of_lt hi) p) hi) (fun σ H p=>as.stop H (hk _ σ H (Nat.le_refl _) p)) (fun i σ H x H' N hi p y hN=>by
  obtain⟨rfl,e⟩:=as.yld H i x H' (hk i σ H (Nat.le_of_lt hi) p) hi y
  exact hs i σ _ x N e p hN) hd
theorem R0{em:TEm}{N:St->Hp->Prop}{σ:St}{H:Hp}{i:Nat}{x:V}(h:em (σ.set i (some x)) H N):K7 i x σ H fun σ2 H2=>De σ2 H2 fun b H3=>if b=true then em σ2 H3 N else N σ2 H3:=by
 show if true=true then em (σ.set i (some x)) H N else N (σ.set i (some x)) H
 rw[if_pos rfl]
 exact h
theorem Mx{em:TEm}{N:St->Hp->Prop}{σ:St}{H:Hp}(h:em σ H N):De σ H fun b H3=>if b=true then em σ H3 N else N σ H3:=by
 show if true=true then em σ H N else N σ H
 rw[if_pos rfl]
 exact h
section
variable{X:Cx}(K:PySem.W.Frag)(P:Program)(w:World){tg:Expr}
theorem piL{l:Expr}{tl:TE}(hl:PE X l tl)(hK:X.K=K:=by rfl):PI X tg l (Yf K tl):=by subst hK;exact Tr hl
theorem piT{l:Expr}{tl:TE}(hl:PE X l tl)(hK:X.K=K:=by rfl):PI X tg l (Yv K tl):=by subst hK;exact Xa hl
theorem piS{l:Expr}{tl:TE}(hl:PE X l tl)(hK:X.K=K:=by rfl):PI X tg l (Yp K tl):=by subst hK;exact Yg hl
theorem piE{elts:List Expr}{kk:Nat}{tp:Pos}{a:Expr}{ta:TA}{p pos:Pos}(hm:X.mg "enumerate" = none)(ha:PA X [a] ta)(hg:Gl X "enumerate":=by rfl)(hs:starEach [a] X.env = [(false,eval a X.env)]:=by rfl)(hK:X.K=K:=by rfl) :
  PI X (.Tuple elts kk tp) (.Call (.Name "enumerate" p) [a] [] pos) (Vi K ta):=by subst hK;exact Tn hg hm Fx ha hs
theorem Sz{a:Expr}{ta:TA}{p pos:Pos}(hm:X.mg "range" = none)(ha:PA X [a] ta)(hg:Gl X "range":=by rfl)(hs:starEach [a] X.env = [(false,eval a X.env)]:=by rfl):PI X tg (.Call (.Name "range" p) [a] [] pos) (Wz ta):=Oi hg hm ha hs
theorem pgT{es:List Expr}{k:Nat}{t:TGs}{n:Nat}{pos:Pos}(h:PGs X es t)(hc:X.calm=true:=by rfl)(hn:(assignEach es X.env).length=n:=by rfl)(hst:(assignEach es X.env).findIdx? (·.1)=none:=by rfl)(hK:X.K=K:=by rfl):PG X (.Tuple es k pos) (Vr K n t):=by subst hK;exact Yl hc h hn hst
theorem peF{e:Expr}{ta:TE}{f:Str}{pos:Pos}(he:PE X e ta)(hb:attributeBase e f X.env (eval e X.env)=eval e X.env:=by rfl)(hK:X.K=K:=by rfl):PE X (.Attribute e f pos) (zAx K ta f):=by subst hK;exact Vq he hb
theorem psF{o value:Expr}{ta tv:TE}{f:Str}{pos pos':Pos}(ha:PE X o ta)(hv:PE X value tv)(hs:swapsWith value (some (.Attribute o f pos')) pos.line X.env=pure false:=by rfl)(hK:X.K=K:=by rfl):PS X (.Assign [.Attribute o f pos'] value pos) (zAk K ta tv f):=by subst hK;exact Vu ha hv hs
theorem J9(hK:X.K=K:=by rfl):G5 X (.builtin "len") (fun xs H Q=>∃p ys,xs = [.ref p]/\(SqL K H p ys\/SqT K H p ys)/\Q (.int ys.length) H):=by subst hK;exact Ed
theorem Gz(hK:X.K=K:=by rfl):G5 X (.type "list") (fun xs H Q=>∃p ys,xs = [.ref p]/\(SqL K H p ys\/SqT K H p ys)/\∀l,H l=none->Q (.ref l) (upd H l (.lst ys))):=by subst hK;exact Gd
theorem Rg(hK:X.K=K:=by rfl):G5 X (.type "tuple") (fun xs H Q=>∃p ys,xs = [.ref p]/\((SqL K H p ys/\∀l,H l=none->Q (.ref l) (upd H l (.tup ys)))\/(SqT K H p ys/\Q (.ref p) H))):=by subst hK;exact Dd
theorem T0(hc:X.calm=true:=by rfl)(hK:X.K=K:=by rfl):G5 X (.builtin "all") (fun xs H Q=>∃(p:Addr) (bs:List Bool),xs = [.ref p]/\SqL K H p (bs.map V.bl)/\Q (.bl (bs.all id)) H):=by subst hK;exact Qi hc
theorem p9(hK:X.K=K:=by rfl):G5 X (.builtin "sorted") (fun xs H Q=>∃(p:Addr) (ss:List Str),xs = [.ref p]/\SqL K H p (ss.map V.str)/\∀(l:Addr) (ss':List Str),H l=none->ss'.Perm ss->ss'.Pairwise leS->Q (.ref l) (upd H l (.lst (ss'.map V.str)))):=by subst hK;exact l0
theorem Ps(hK:X.K=K:=by rfl):G5 X (.builtin "sorted") (fun xs H Q=>∃(p:Addr) (ps:List PA2),xs = [.ref p]/\SqL K H p (ps.map fun q=>V.ref q.1)/\(∀q∈ps,D0 H q)/\∀(l:Addr) (ps':List PA2),H l=none->ps'.Perm ps->ps'.Pairwise leP->Q (.ref l) (upd H l (.lst (ps'.map fun q=>V.ref q.1)))):=by subst hK;exact Fg
theorem Ix(hc:X.calm=true:=by rfl)(hw:X.w=w:=by rfl):G5 X (.builtin "sorted") (fun xs H Q=>∃(p:Addr) (ss:List Str),xs = [.ref p]/\H p=some (Dm w p ss)/\∀(l:Addr) (ss':List Str),H l=none->ss'.Perm ss->ss'.Pairwise leS->Q (.ref l) (upd H l (.lst (ss'.map V.str)))):=by subst hw;exact Fp hc
theorem J5(hK:X.K=K:=by rfl):G5 X (.builtin "isinstance") (fun xs H Q=>∃x n t b,xs = [x,.ty n]/\TyOf K H x t/\PySem.W.kitOne K t (.type n)=some b/\Q (.bl b) H):=by subst hK;exact Mz
theorem Uu(hP:X.prog=P:=by rfl)(hw:X.w=w:=by rfl):G5 X (.type "set") (fun xs H Q=>xs = []/\∀p,H p=none->Q (.ref p) (upd H p (Kw P w p []))):=by subst hP;subst hw;exact Lz
theorem Qm(hP:X.prog=P:=by rfl)(hw:X.w=w:=by rfl):G5 X (.type "set") (fun xs H Q=>xs = []/\∀p,H p=none->Q (.ref p) (upd H p (Kx P w p []))):=by subst hP;subst hw;exact Ks
theorem Yx(hu:X.A.units+64<cLine)(hK:X.K=K:=by rfl):OpR X (compareOp .In) (Uh K false):=by subst hK;exact Vz hu
theorem Cr(hu:X.A.units+64<cLine)(hK:X.K=K:=by rfl):OpR X (compareOp .NotIn) (Uh K true):=by subst hK;exact Lp hu
theorem Hr(hu:X.A.units+64<cLine)(hK:X.K=K:=by rfl):OpR X (compareOp .Eq) (Vh K):=by subst hK;exact Vp hu
theorem Zu(hu:X.A.units+64<cLine)(hK:X.K=K:=by rfl):OpR X (compareOp .NotEq) (Zj K):=by subst hK;exact Wm hu
theorem V3(hK:X.K=K:=by rfl):OpR X (compareOp .In) (rIn K false):=by subst hK;exact Mg
theorem X3(hK:X.K=K:=by rfl):OpR X (compareOp .NotIn) (rIn K true):=by subst hK;exact El
theorem Zy(hP:X.prog=P:=by rfl)(hw:X.w=w:=by rfl):OpR X (compareOp .In) (zAi P w false):=by subst hP;subst hw;exact Na
theorem Yy(hu:X.A.units+1<cLine)(hP:X.prog=P:=by rfl)(hw:X.w=w:=by rfl):OpR X (compareOp .In) (zAy P w):=by subst hP;subst hw;exact Ku hu
theorem Xb(hP:X.prog=P:=by rfl)(hw:X.w=w:=by rfl):MtM X "set.add" (Vk P w):=by subst hP;subst hw;exact Xh
theorem Yj(hu:X.A.units+1<cLine)(hP:X.prog=P:=by rfl)(hw:X.w=w:=by rfl):MtM X "set.add" (Xk P w):=by subst hP;subst hw;exact Tl hu
theorem Rt{o e:Expr}{to:TE}{t:TA}{apos cpos:Pos}{r:V->List V->Hp->VK->Prop}(hm:MtM X "set.add" r)(ho:PE X o to)(ha:PA X [e] t)
  (hbase:attributeBase o "add" X.env (eval o X.env)=eval o X.env:=by rfl)
  (hfew:((backTo cpos (starEach [e] X.env)).all (fun x=>!x.1) &&(backToKw cpos (keywordEach [] X.env)).all (fun x=>x.1.isSome)
   && decide ([e].length +([]:List Keyword).length +(if([]:List Keyword).isEmpty then 0 else 1)<30))=true:=by rfl)
  (hline:(apos.endLine == cpos.line)=true:=by rfl) (hs:starEach [e] X.env = [(false,eval e X.env)]:=by rfl) (hP:X.prog=P:=by rfl) (hw:X.w=w:=by rfl) :
  PE X (.Call (.Attribute o "add" apos) [e] [] cpos) (zAl P w r to t):=by subst hP;subst hw;exact Ve hm ho ha hbase hfew hline hs
theorem ixL(hK:X.K=K:=by rfl):IxR X (zAo K):=by subst hK;exact Ug
theorem ixT(hK:X.K=K:=by rfl):IxR X (zAz K):=by subst hK;exact Yi
theorem slL(hK:X.K=K:=by rfl):SlR X (zAv K):=by subst hK;exact Ue
theorem Ig(hK:X.K=K:=by rfl):MtM X "list.index" (Mc K):=by subst hK;exact Lj
theorem Jh{T id:String}{name:Str}{o e:Expr}{es:List Expr}{to:TE}{t:TA}{apos cpos:Pos}{r:V->List V->Hp->VK->Prop}(pa:PlainAttrs T)(slot:Slot T name id)(hty:typeOf (.builtin id)=pure (.type "method_descriptor"))(hm:MtM X id r)(ho:PE X o to)(ha:PA X (e::es) t)
  (hbase:attributeBase o name X.env (eval o X.env)=eval o X.env:=by rfl)
  (hfew:((backTo cpos (starEach (e::es) X.env)).all (fun x=>!x.1) &&(backToKw cpos (keywordEach [] X.env)).all (fun x=>x.1.isSome)
   && decide ((e::es).length +([]:List Keyword).length +(if([]:List Keyword).isEmpty then 0 else 1)<30))=true:=by rfl)
  (hline:(apos.endLine == cpos.line)=true:=by rfl) (hs:starEach (e::es) X.env =(false,eval e X.env)::starEach es X.env:=by rfl) (hplain:(backTo cpos (starEach es X.env)).any (·.1)=false:=by rfl) (hK:X.K=K:=by rfl) :
  PE X (.Call (.Attribute o name apos) (e::es) [] cpos) (tBM K T r to t):=by subst hK;exact Zg pa slot hty hm ho ha hbase hfew hline hs hplain
theorem Zn{T id:String}{name:Str}{o:Expr}{to:TE}{apos cpos:Pos}{r:V->List V->Hp->VK->Prop}(pa:PlainAttrs T)(slot:Slot T name id)(hty:typeOf (.builtin id)=pure (.type "method_descriptor"))(hm:MtM X id r)(ho:PE X o to)
  (hbase:attributeBase o name X.env (eval o X.env)=eval o X.env:=by rfl) (hline:(apos.endLine == cpos.line)=true:=by rfl) (hK:X.K=K:=by rfl):PE X (.Call (.Attribute o name apos) [] [] cpos) (zAm K T r to):=by subst hK;exact Wc pa slot hty hm ho hbase hline
end
section
variable{X:Cx}{tg iter elt tg2 iter2:Expr}{g g2:TG}{tc tc2:TT}{te:TE}{ifs ifs2:List Expr}{scope:Scope}{cl:List (Str×Addr)}{N':List Str}{cap:List (Option Nat)}{pos:Pos}{wi wi2:TI}
theorem Wq(w:World)(S:CScope X scope cl N' cap)(hi:PI X tg iter wi)
  (hb:∀(pins:List (Addr×Obj)) (ex:List Addr) (s3:Shared) (H3:Hp),PG (cxC X scope cl N' pins ex s3 H3) tg g/\PTs (cxC X scope cl N' pins ex s3 H3) ifs tc/\PI (cxC X scope cl N' pins ex s3 H3) tg2 iter2 wi2 /\
   PG (cxC X scope cl N' pins ex s3 H3) tg2 g2/\PTs (cxC X scope cl N' pins ex s3 H3) ifs2 tc2/\PE (cxC X scope cl N' pins ex s3 H3) elt te)
  (hc:X.calm=true:=by rfl) (hs:∀x,foldedSetIterable iter X.env x=pure x:=by intro _;rfl) (hs2:∀env x,foldedSetIterable iter2 env x=pure x:=by intro _ _;rfl) (hw:X.w=w:=by rfl) :
  PE X (.SetComp elt [⟨tg,iter,ifs,0⟩,⟨tg2,iter2,ifs2,0⟩] scope pos) (t9 wi (fun D=>Dm w D []) cap fun D J σ H Q=>Aq g tc (Zx wi2 fun J σ H Q=>Aq g2 tc2 (Ff w D te) J σ H Q) J σ H Q):=by
 subst hw
 exact Tf S hc hi hb hs hs2
end
theorem Qs:bootBuiltins "range" = some (.type "range"):=by decide +kernel
theorem Eh:∀(us:List Value) (b:Nat),(∀j v,us[j]?=some v->∃t,v=Value.int ((b+j:Nat):Int) t)->Vals ((List.range' b us.length).map fun k:Nat=>V.int (k:Int)) us
 | [],_,_=>.nil
 | u::r,b,h=>by
  obtain⟨t,rfl⟩:=h 0 u rfl
  refine .cons ⟨t,rfl⟩ (Eh r (b+1) fun j v hv=>?_)
  obtain⟨t,e⟩:=h (j+1) v hv
  exact⟨t,by rw[e];congr 2;omega⟩
section
variable{X:Cx}
theorem Gn:G5 X (.type "range") (fun xs H Q=>∃j:Int,xs = [.int j]/\∀l,H l=none->Q (.ref l) (upd H l (.rng 0 j))):=by
 intro pins s σ H xs us Q I r h
 obtain⟨j,rfl,q⟩:=h
 obtain⟨u,rfl,t,rfl⟩:=U9 r
 refine call_range_1 ?_
 exact⟨.ref s.heap.objs.size,_,I.laid (t':=s.toks+1+1) (fun b o e=>Heap.get?_push_of_some _ e) (by omega) (show ObjOk X.prog X.w _ _ _ (.rng 0 j)from⟨_,_,_,Heap.get?_push_size _ rfl⟩),rfl,q _ (I.hok.fresh (Nat.le_refl _))⟩
theorem Ki(hc:X.calm=true:=by rfl):G5 X (.type "list") (fun xs H Q=>∃(p:Addr) (n:Nat),xs = [.ref p]/\H p=some (.rng 0 (n:Int))/\n<=2^20/\∀l,H l=none->Q (.ref l) (upd H l (.lst ((List.range n).map fun k:Nat=>V.int (k:Int))))):=by
 intro pins s σ H xs us Q I r h
 obtain⟨p,n,rfl,hp,hn,q⟩:=h
 obtain⟨u,rfl,ru⟩:=U9 r
 cases ru
 obtain⟨t,u,v,e⟩:=I.hok _ _ hp
 refine call_list_range (n:=n) (I.ok.hd hc) e ?_ ?_ (by omega) fun h' tk acc' c' kp e' hacc=>?_
 ·exact small_one (by omega) (by omega) (by omega) (by omega)
 ·rw[rangeSize_one];split<;>omega
 ·have hl:acc'.toList.length=n:=by simp[hacc.1]
  have hv:Vals ((List.range n).map fun k:Nat=>V.int (k:Int)) acc'.toList:=by
   have:=Eh acc'.toList 0 fun j v hv=>by
    obtain⟨t,e⟩:=hacc.2 j v (by simpa using hv)
    exact⟨t,by rw[e];congr 1;omega⟩
   rw[hl,<-List.range_eq_range']at this
   exact this
  refine⟨.ref s.heap.objs.size,_,I.laid (t':=tk) kp (Nat.le_refl _) (show ObjOk X.prog X.w _ h' _ (.lst _)from⟨by rw[List.length_map,List.length_range,sizeLine_eq];omega,acc'.toList,c',hv,by simpa using e'⟩),rfl,q _ (I.hok.fresh (Nat.le_refl _))⟩
end
section
variable{prog:Program}{w:World}{A:Around}{E:Value->Shared->Prop}{s:Shared}
theorem Gy{t:Addr}{vs:List Value}{Q:List Value->Shared->Prop}(ht:IsTup s.heap t vs.toArray)(hsz:vs.length<=sizeLine)(h:∀h',(∀b u,s.heap.get? b=some u->h'.get? b=some u)->s.heap.objs.size<=h'.objs.size->Q vs { s with heap:=h' }):wpAny (model prog w) A (collect (.ref t)) Q E s:=by
 obtain⟨o,ho,hc,n,hd⟩:=ht
 unfold collect
 refine wpAny_bind (wpAny_runValue (codeAny_builtin F.entry_proto_collect ?_))
 rw[show A.under _=A.in1 from Around.under_plainId F.plain_proto_collect _]
 show wpAny _ A.in1 (newList [] >>= fun l=>again (.builtin "list.__iadd__" ⟨[l,.ref t],[]⟩)) _ _ s
 refine wpAny_bind (wpAny_newObj_type (wpAny_pure ⟨plainId_quiet F.plain_list_iadd _,codeAny_builtin F.entry_list_iadd ?_⟩))
 rw[show A.under _=A.in1 from Around.under_plainId F.plain_list_iadd _]
 show wpAny _ A.in1 (Builtin.List.listExtendWith (.ref s.heap.objs.size) (.ref t) (.ref s.heap.objs.size)) _ _ _
 have g1:(s.heap.push { cls:=.type "list",data:=.seq ([]:List Value).toArray }).get? s.heap.objs.size=some { cls:=.type "list",data:=.seq #[] 0 }:=Heap.get?_push_size _ rfl
 have g2:=Heap.get?_update_self (Obj.mapSeq (· ++ vs.toArray)) g1 rfl
 have fin:wpAny (model prog w) A (match Value.ref s.heap.objs.size with
   | Value.ref a=>do
    match(<-load a).data with
     | Data.seq xs _=>pure xs.toList
     | _=>unsupported "internal:collect"
   | _=>unsupported "internal:collect") Q E { s with heap:=(s.heap.push { cls:=.type "list",data:=.seq ([]:List Value).toArray }).update s.heap.objs.size (Obj.mapSeq (· ++ vs.toArray)) }:=by
  show wpAny _ A (load s.heap.objs.size >>= _) _ _ _
  refine wpAny_bind (wpAny_load g2 (wpAny_pure ?_))
  show Q ((#[]:Array Value)++vs.toArray).toList _
  rw[show((#[]:Array Value)++vs.toArray).toList=vs from by simp]
  exact h _ (fun b u hb=>(Heap.get?_update_other _ _ (Nat.ne_of_gt (Heap.lt_size hb))).trans (Heap.get?_push_of_some _ hb)) (by rw[Heap.size_update,Heap.size_push];omega)
 refine wpAny_mono (wpAny_extend_seq (A:=A) (hsz:=by rw[List.size_toArray];exact hsz) (R:=fun r s'=>r = .ok (.ret (.ref s.heap.objs.size))/\s' ={ s with heap:=(s.heap.push { cls:=.type "list",data:=.seq ([]:List Value).toArray }).update s.heap.objs.size (Obj.mapSeq (· ++ vs.toArray)) })
  (s:={ s with heap:=s.heap.push { cls:=.type "list",data:=.seq ([]:List Value).toArray } }) _ t _ 0 (.inr rfl) g1 (Heap.get?_push_of_some _ ho) hc hd ⟨rfl,rfl⟩) (fun f s' z=>?_) (fun e s' z=>absurd z.1 (by simp))
 match f,z with
 | .done f,⟨e1,e2⟩=>subst e2;cases e1;exact fin
 | .again c,z=>exact⟨z.1,codeAny_mono z.2 fun r s2 hr=>by obtain⟨rfl,rfl⟩:=hr;exact fin⟩
end
section
variable{X:Cx}
theorem Fs:G5 X (.builtin "sorted") (fun xs H Q=>∃(p:Addr) (ss:List Str),xs = [.ref p]/\Sqs X.K H p (ss.map V.str)/\∀(l:Addr) (ss':List Str),H l=none->ss'.Perm ss->ss'.Pairwise leS->Q (.ref l) (upd H l (.lst (ss'.map V.str)))):=by
 intro pins s σ H xs us Q I r h
 obtain⟨p,ss,rfl,hq,q⟩:=h
 rcases hq with hq | hq
 ·exact l0 pins s σ H _ us Q I r ⟨p,ss,rfl,hq,q⟩
 obtain⟨u,rfl,ru⟩:=U9 r
 cases ru
 obtain⟨its,rv,⟨o,ho,hc,n,hd⟩,hz⟩:=I.tuple hq
 have hS:=Z9 rv
 have hl:=rv.length
 refine TS.sorted_gen (Gy ⟨o,ho,hc,n,hd⟩ (by omega) fun h0 k0 hsz=>?_)
 refine⟨rfl,by omega,strKind,oneType',fun s2 _=>TS.keys_strs hS,fun out h' e ho k hg=>?_⟩
 obtain⟨hp,hs⟩:=ho
 have hm:∀v∈out.toList,∃x t,v = .str x t:=fun v hv=>hS.all v (hp.mem_iff.mp hv)
 have hv:Vals ((out.toList.map strOf).map V.str) out.toList:=by
  have:∀us:List Value,(∀v∈us,∃x t,v = .str x t)->Vals ((us.map strOf).map V.str) us:=by
   intro us
   induction us with
   | nil=>exact fun _=>.nil
   | cons v r ih =>
    intro h
    obtain⟨x,t,rfl⟩:=h v (List.mem_cons_self ..)
    exact .cons ⟨t,rfl⟩ (ih fun u hu=>h u (List.mem_cons_of_mem _ hu))
  exact this _ hm
 have hperm:(out.toList.map strOf).Perm ss:=by
  have:=hp.map strOf
  rwa [hS.strs]at this
 have hpw:(out.toList.map strOf).Pairwise leS:=by
  rw[List.pairwise_map]
  refine(List.Pairwise.and_mem.mp hs).imp fun{u v} ⟨hu,hv',q⟩=>?_
  obtain⟨x,t,rfl⟩:=hm u hu
  obtain⟨y,t',rfl⟩:=hm v hv'
  have q':decide (y.cps.toList<x.cps.toList)=false:=q
  exact of_decide_eq_false q'
 have hk0:∀b o,s.heap.get? b=some o->h'.get? b=some o:=fun b o eb=>k b o (k0 b o eb)
 refine⟨.ref h0.objs.size,upd H h0.objs.size (.lst ((out.toList.map strOf).map V.str)),?_,rfl,q _ _ (I.hok.fresh hsz) hperm hpw⟩
 refine I.laid (t':=s.toks) hk0 hsz ⟨?_,out.toList,e,hv,by simpa using hg⟩
 rw[List.length_map,List.length_map,hp.length_eq]
 omega
theorem Kv{pins:List (Addr×Obj)}{σ:St}{H:Hp}{s:Shared}{A:Around}{E:Value->Shared->Prop}{Q:Value->Shared->Prop}{b:Bool}{x:V}{u t:Value}{tp:Addr}{its:List Value}(I:Inv X pins σ H s)(rx:RelV x u)(ty:TyOf X.K H x t)(htp:IsTup s.heap tp its.toArray)(e:PySem.W.kitAny X.K t its=some b)(hv:(∃y,x = .str y)\/(∃a xs,x = .ref a/\(H a=some (.lst xs)\/H a=some (.tup xs))))(h:∀tk,Q (.bool b) { s with toks:=tk }) :
  wpAny (model X.prog X.w) A (call (.builtin "isinstance") [u,.ref tp]) Q E s:=by
 obtain⟨⟨oc,od,odt,osl⟩,ho,hc,n,hd⟩:=htp
 cases hc
 cases hd
 rcases hv with⟨y,rfl⟩ | ⟨a,xs,rfl,ea | ea⟩
 ·cases ty
  obtain⟨t,q⟩:=(show ∃t,u=Value.str y t from rx)
  cases q
  exact PySem.W.kia_tup PySem.W.kitx_str I.kIn True.intro ho e (fun z=>nomatch z) h
 ·cases(show u=Value.ref a from rx)
  have hty:t = .type "list":=by cases ty with
   | lst=>rfl
   | frz=>rfl
   | tup ea'=>rw[ea]at ea';cases ea'
   | dK ea'=>rw[ea]at ea';cases ea'
   | dT ea'=>rw[ea]at ea';cases ea'
   | ins ea'=>rw[ea]at ea';cases ea'
  subst hty
  obtain⟨_,_,n,_,h1⟩:=(show ObjOk X.prog X.w H s.heap a (.lst xs)from I.hok a _ ea)
  exact PySem.W.kia_tup PySem.W.kitx_list I.kIn ⟨_,h1,rfl⟩ ho e (fun z=>nomatch z) h
 ·cases(show u=Value.ref a from rx)
  have hty:t = .type "tuple":=by cases ty with
   | tup=>rfl
   | frz ea'=>rw[ea]at ea';cases ea'
   | lst ea'=>rw[ea]at ea';cases ea'
   | dK ea'=>rw[ea]at ea';cases ea'
   | dT ea'=>rw[ea]at ea';cases ea'
   | ins ea'=>rw[ea]at ea';cases ea'
  subst hty
  obtain⟨_,_,_,p⟩:=(show ObjOk X.prog X.w H s.heap a (.tup xs)from I.hok a _ ea)
  obtain⟨o,h1,h2,_⟩:=p
  exact PySem.W.kia_tup PySem.W.kitx_tuple I.kIn ⟨o,h1,h2⟩ ho e (fun z=>nomatch z) h
noncomputable def Wh(K:PySem.W.Frag):List V->Hp->VK->Prop:=fun xs H Q=>∃(x:V) (p:Addr) (ns:List String) (t:Value) (b:Bool),xs = [x,.ref p]/\H p=some (.tup (ns.map V.ty))/\TyOf K H x t/\((∃y,x = .str y)\/(∃a xs,x = .ref a/\(H a=some (.lst xs)\/H a=some (.tup xs))))/\PySem.W.kitAny K t (ns.map Value.type)=some b/\Q (.bl b) H
theorem Nq:∀{ns:List String} {us:List Value},Vals (ns.map V.ty) us->us=ns.map Value.type
 | [],_,.nil=>rfl
 | _::_,_,.cons r t=>by rw[List.map_cons,Nq t];cases r;rfl
theorem Jr:G5 X (.builtin "isinstance") (Wh X.K):=by
 intro pins s σ H xs us Q I r h
 obtain⟨x,p,ns,t,b,rfl,hp,ht,hv,he,q⟩:=h
 obtain⟨u,v,rfl,ru,rv⟩:=r.two
 cases rv
 obtain⟨its,rv,pl,hz⟩:=I.tuple (SqT.of hp)
 rw[Nq rv]at pl
 exact Kv I ru ht pl he hv fun tk=>⟨.bl b,H,I.tok _,rfl,q⟩
variable(K:PySem.W.Frag)
theorem Pb(hK:X.K=K:=by rfl):G5 X (.builtin "sorted") (fun xs H Q=>∃(p:Addr) (ss:List Str),xs = [.ref p]/\Sqs K H p (ss.map V.str)/\∀(l:Addr) (ss':List Str),H l=none->ss'.Perm ss->ss'.Pairwise leS->Q (.ref l) (upd H l (.lst (ss'.map V.str)))):=by subst hK;exact Fs
theorem Qr(hK:X.K=K:=by rfl):G5 X (.builtin "isinstance") (Wh K):=by subst hK;exact Jr
end
section
variable{prog:Program}{w:World}{A:Around}{E:Value->Shared->Prop}{s:Shared}{it l:Addr}{i:Nat}{items:Array Value}{x:Value}{Q:Value->Shared->Prop}
theorem Um{α:Type}{Q:α->Shared->Prop}(hA:A.handled=none)(h:∀h' e,(∀b o,s.heap.get? b=some o->h'.get? b=some o)->(∃o,h'.get? e=some o/\o.cls = .type "StopIteration")->E (.ref e) { s with heap:=h' }):wpAny (model prog w) A (Builtin.SmallTypes.stopIteration (α:=α)) Q E s:=by
 refine wpAny_bind (wpAny_bind (wpAny_newTuple (wpAny_bind (wpAny_pure (wpAny_newObj_type ?_ (sizeOk_excFields ..)))) (by show 0<=sizeLine;decide)))
 refine wpAny_bind (wpAny_handled ?_)
 rw[hA]
 exact wpAny_throw (h _ _ (fun b o e=>Heap.get?_push_of_some _ (Heap.get?_push_of_some _ e)) ⟨_,Heap.get?_push_size _ rfl,rfl⟩)
theorem M7(hit:s.heap.IsTupleIter it l i)(hl:s.heap.IsTuple l items)(hx:items[i]?=some x)
  (hQ:∀h',h'.IsTupleIter it l (i+1)->Heap.SameBut it s.heap h'->Q x { s with heap:=h' }):wpAny (model prog w) A (Builtin.SmallTypes.nextOf (.ref it)) Q E s:=by
 obtain⟨o,ho,hc,hd⟩:=id hit
 obtain⟨ol,hol,_,nl,hdl⟩:=hl
 refine wpAny_bind (wpAny_callSpecial?_slot hit.typeIs F.slot_tuple_iterator_next (wpAny_call_entry F.slot_tuple_iterator_next hit.typeIs F.entry_tuple_iterator_next ?_ (F.args_tuple_iterator_next_1 _)))
 refine wpAny_bind (wpAny_pure (wpAny_bind (wpAny_field ho hd rfl ?_)))
 refine wpAny_ite_false (c:=(Value.ref l == Value.none)=true) rfl ?_
 refine wpAny_bind (wpAny_field ho hd rfl (wpAny_bind (wpAny_seqItems hol hdl ?_)))
 dsimp only
 rw[show items[(i:Int).toNat]?=some x from hx]
 refine wpAny_bind (wpAny_setField ho hd (Nat.lt_succ_self 1) (wpAny_pure ⟨x,rfl,wpAny_pure (hQ _ ⟨_,Heap.get?_update_self _ ho (Obj.isFreed_of_fields (Obj.data_mapFields hd _)),(Obj.cls_mapFields o _).trans hc,(Obj.data_mapFields hd _).trans ?_⟩ (Heap.SameBut.update _ _ _))⟩))
 rfl
theorem Av(hA:A.handled=none)(hit:s.heap.IsTupleIter it l i)(hl:s.heap.IsTuple l items)(hx:items[i]?=none)
  (hE:∀h' e,Heap.ExtBut it s.heap h'->(∃o,h'.get? e=some o/\o.cls = .type "StopIteration")->E (.ref e) { s with heap:=h' }):wpAny (model prog w) A (Builtin.SmallTypes.nextOf (.ref it)) Q E s:=by
 obtain⟨o,ho,hc,hd⟩:=id hit
 obtain⟨ol,hol,_,nl,hdl⟩:=hl
 refine wpAny_bind (wpAny_callSpecial?_slot hit.typeIs F.slot_tuple_iterator_next (wpAny_call_entry F.slot_tuple_iterator_next hit.typeIs F.entry_tuple_iterator_next ?_ (F.args_tuple_iterator_next_1 _)))
 refine wpAny_bind (wpAny_pure (wpAny_bind (wpAny_field ho hd rfl ?_)))
 refine wpAny_ite_false (c:=(Value.ref l == Value.none)=true) rfl ?_
 refine wpAny_bind (wpAny_field ho hd rfl (wpAny_bind (wpAny_seqItems hol hdl ?_)))
 dsimp only
 rw[show items[(i:Int).toNat]?=none from hx]
 refine wpAny_bind (wpAny_rule (wpAny_bind (wpAny_setField ho hd (Nat.zero_lt_succ 1) ?_)))
 exact Um hA fun h' e k ho=>hE h' e (fun b o hb e=>k b o (((Heap.SameBut.update _ _ _).2 b hb).trans e)) ho
theorem Dc{M:Model}{α β:Type}{a b:α}{i u v:β}{f:α->β->Sem (ForInStep β)}{Q:β->Shared->Prop}(h:wpAny M A (f a i) (fun r s'=>r = .yield u/\wpAny M A (f b u) (fun r s'=>r = .yield v/\Q v s') E s') E s):wpAny M A (forIn [a,b] i f) Q E s:=by
 rw[List.forIn_cons]
 refine wpAny_bind (wpAny_mono h (fun r s' z=>?_) fun e s' z=>z)
 obtain⟨rfl,z⟩:=z
 show wpAny M A (forIn [b] u f) Q E s'
 rw[List.forIn_cons]
 refine wpAny_bind (wpAny_mono z (fun r s' z=>?_) fun e s' z=>z)
 obtain⟨rfl,z⟩:=z
 exact wpAny_pure z
theorem Aw{z TI TO i1 i2 l1 l2:Addr}{k1 k2:Nat}{xs ys:Array Value}{x y a b:Value}(D:ZipApart z TI TO i1 i2 l1 l2)(hz:IsZip s.heap z TI TO .none)(hti:IsPair s.heap TI (.ref i1) (.ref i2))(hto:IsPair s.heap TO a b)
  (h1:s.heap.IsTupleIter i1 l1 k1) (h2:s.heap.IsTupleIter i2 l2 k2) (g1:s.heap.IsTuple l1 xs) (g2:s.heap.IsTuple l2 ys) (hx:xs[k1]?=some x) (hy:ys[k2]?=some y)
  (hQ:∀h',IsZip h' z TI TO (rawInt s.heap.objs.size)->IsPair h' TO x y->h'.IsTupleIter i1 l1 (k1+1)->h'.IsTupleIter i2 l2 (k2+1)->IsPair h' s.heap.objs.size x y->h'.objs.size=s.heap.objs.size+1->(∀c o,c≠z->c≠TO->c≠i1->c≠i2->s.heap.get? c=some o->h'.get? c=some o)->Q (.ref s.heap.objs.size) { s with heap:=h' }) :
  wpAny (model prog w) A (Builtin.«zip.__next__» ⟨[.ref z],[]⟩) (fun fin s'=>∃v,fin = .done (.ret v)/\Q v s') E s:=by
 obtain⟨h0,gg,dd,tt,oo⟩:=s
 refine wpAny_bind (wpAny_pure (wpAny_bind (wpAny_field hz rfl rfl (wpAny_bind (wpAny_field hz rfl rfl (wpAny_bind (wpAny_seqItems hti rfl ?_)))))))
 refine wpAny_ite_false rfl (wpAny_bind (wpAny_bind (wpAny_field hz rfl rfl (wpAny_pure (wpAny_ite_true rfl ?_)))))
 refine wpAny_bind (wpAny_rule (wpAny_bind (wpAny_field hz rfl rfl (wpAny_bind (wpAny_setField_rec hz (Nat.zero_lt_succ 4) fun h3 z3 s3=>?_)))))
 have a3:=h1.extBut s3.extBut D.i1z
 have b3:=h2.extBut s3.extBut D.i2z
 have c3:=g1.extBut s3.extBut D.l1z
 have d3:=g2.extBut s3.extBut D.l2z
 have e3:=(s3.2 TO D.TOz).trans hto
 refine wpAny_bind ?_
 rw[show(#[Value.ref i1,Value.ref i2].toList.zipIdx) = [(Value.ref i1,0),(Value.ref i2,1)]from rfl]
 refine Dc (u:=(none,())) (v:=(none,())) ?_
 refine wpAny_bind (wpAny_onRaise (wpAny_ite_false rfl (wpAny_bind (M7 a3 c3 hx fun h4 a4 s4=>wpAny_pure ?_))))
 have e4:=(s4.2 TO D.TOi1).trans e3
 refine wpAny_bind (wpAny_seqItems e4 rfl (wpAny_bind (wpAny_updateSeq_pair e4 fun h5 e5 s5=>wpAny_bind (wpAny_letGo (wpAny_pure ⟨rfl,?_⟩)))))
 have b5:=(b3.extBut s4.extBut D.i12.symm).extBut s5.extBut D.TOi2.symm
 have d5:=(d3.extBut s4.extBut D.l2i1).extBut s5.extBut D.l2TO
 refine wpAny_bind (wpAny_onRaise (wpAny_ite_false rfl (wpAny_bind (M7 b5 d5 hy fun h6 b6 s6=>wpAny_pure ?_))))
 have e6:=(s6.2 TO D.TOi2).trans e5
 refine wpAny_bind (wpAny_seqItems e6 rfl (wpAny_bind (wpAny_updateSeq_pair e6 fun h7 e7 s7=>wpAny_bind (wpAny_letGo (wpAny_pure ⟨rfl,?_⟩)))))
 have z7:=(s7.2 z D.TOz.symm).trans ((s6.2 z D.i2z.symm).trans ((s5.2 z D.TOz.symm).trans ((s4.2 z D.i1z.symm).trans z3)))
 have hs:h7.objs.size=h0.objs.size:=s7.1.trans (s6.1.trans (s5.1.trans (s4.1.trans s3.1)))
 have n0:∀{c:Addr} {o:Obj},h0.get? c=some o->c≠h7.objs.size:=fun e=>by rw[hs];exact Nat.ne_of_lt (Heap.lt_size e)
 refine wpAny_bind (wpAny_seqItems e7 rfl (wpAny_bind (wpAny_newTuple (wpAny_bind (wpAny_bind (wpAny_setField_rec (Heap.get?_push_of_some _ z7) (Nat.zero_lt_succ 4) fun h8 z8 s8=>wpAny_setField_rec z8 (Nat.succ_lt_succ (Nat.zero_lt_succ 3)) fun h9 z9 s9=>wpAny_pure ⟨_,rfl,?_⟩))) (by show 2<=sizeLine;decide))))
 have k9:∀{c:Addr} {o:Obj},c≠z->h7.get? c=some o->h9.get? c=some o:=fun nz e=>(s9.2 _ nz).trans ((s8.2 _ nz).trans (Heap.get?_push_of_some _ e))
 have sz9:h9.objs.size=h0.objs.size+1:=s9.1.trans (s8.1.trans ((Heap.size_push ..).trans (congrArg (· + 1) hs)))
 have tk:h9.get? h7.objs.size=some ⟨.type "tuple",none,.seq #[x,y],#[]⟩:=(s9.2 _ (n0 hz).symm).trans ((s8.2 _ (n0 hz).symm).trans (Heap.get?_push_size _ rfl))
 rw[hs]at z9 tk⊢
 refine hQ h9 z9 (k9 D.TOz e7) (a4.at fun o e=>?_) (b6.at fun o e=>?_) tk sz9 fun c o nz nt n1 n2 e=>k9 nz ?_
 ·exact k9 D.i1z ((s7.2 _ D.TOi1.symm).trans ((s6.2 _ D.i12).trans ((s5.2 _ D.TOi1.symm).trans e)))
 ·exact k9 D.i2z ((s7.2 _ D.TOi2.symm).trans e)
 ·exact(s7.2 _ nt).trans ((s6.2 _ n2).trans ((s5.2 _ nt).trans ((s4.2 _ n1).trans ((s3.2 _ nz).trans e))))
theorem Dg{z TI TO i1 i2 l1 l2:Addr}{k1:Nat}{xs:Array Value}{Q:PySem.Fin->Shared->Prop}(hA:A.handled=none)(D:ZipApart z TI TO i1 i2 l1 l2)(hz:IsZip s.heap z TI TO .none)(hti:IsPair s.heap TI (.ref i1) (.ref i2))
  (h1:s.heap.IsTupleIter i1 l1 k1) (g1:s.heap.IsTuple l1 xs) (hx:xs[k1]?=none)
  (hE:∀h' e,(∀c o,c≠z->c≠TO->c≠i1->c≠i2->s.heap.get? c=some o->h'.get? c=some o)->(∃o,h'.get? e=some o/\o.cls = .type "StopIteration")->E (.ref e) { s with heap:=h' }) :
  wpAny (model prog w) A (Builtin.«zip.__next__» ⟨[.ref z],[]⟩) Q E s:=by
 obtain⟨h0,gg,dd,tt,oo⟩:=s
 refine wpAny_bind (wpAny_pure (wpAny_bind (wpAny_field hz rfl rfl (wpAny_bind (wpAny_field hz rfl rfl (wpAny_bind (wpAny_seqItems hti rfl ?_)))))))
 refine wpAny_ite_false rfl (wpAny_bind (wpAny_bind (wpAny_field hz rfl rfl (wpAny_pure (wpAny_ite_true rfl ?_)))))
 refine wpAny_bind (wpAny_rule (wpAny_bind (wpAny_field hz rfl rfl (wpAny_bind (wpAny_setField_rec hz (Nat.zero_lt_succ 4) fun h3 z3 s3=>?_)))))
 refine wpAny_bind ?_
 rw[show(#[Value.ref i1,Value.ref i2].toList.zipIdx) = [(Value.ref i1,0),(Value.ref i2,1)]from rfl,List.forIn_cons]
 refine wpAny_bind (wpAny_bind (wpAny_onRaise (wpAny_ite_false rfl (wpAny_bind (Av hA (h1.extBut s3.extBut D.i1z) (g1.extBut s3.extBut D.l1z) hx fun h4 e k4 ho=>?_)))))
 refine wpAny_setField_rec (k4 z _ D.i1z.symm z3) (Nat.zero_lt_succ 4) fun h5 z5 s5=>hE h5 e (fun c o nz _ n1 _ e=>(s5.2 _ nz).trans (k4 c o n1 ((s3.2 _ nz).trans e))) ?_
 obtain⟨o,ho,hc⟩:=ho
 have ne:e≠z:=fun q=>by
  subst q
  rw[k4 e _ D.i1z.symm z3]at ho
  cases ho
  exact absurd (show Value.type "zip" = .type "StopIteration" from hc) (by decide)
 exact⟨o,(s5.2 _ ne).trans ho,hc⟩
theorem i6{z TI TO:Addr}{f0:Value}(hz:IsZip s.heap z TI TO f0):s.TypeIs (.ref z) "zip":=⟨_,hz,rfl⟩
theorem Tp(hA:A.handled=none)(z TI TO i1 i2 l1 l2:Addr)(D:ZipApart z TI TO i1 i2 l1 l2)(xs ys:Array Value)(hl:xs.size<=ys.size) :
  WalksT prog w A z [z,TI,TO,i1,i2,l1,l2] [z,TO,i1,i2] xs.size (fun i vals=>∃x y,xs[i]?=some x/\ys[i]?=some y/\vals = #[x,y])
   (fun i h=>IsZip h z TI TO .none/\IsPair h TI (.ref i1) (.ref i2)/\(∃a b,IsPair h TO a b)/\h.IsTupleIter i1 l1 i/\h.IsTupleIter i2 l2 i/\h.IsTuple l1 xs/\h.IsTuple l2 ys)
   (fun i T h=>IsZip h z TI TO (rawInt T)/\IsPair h TI (.ref i1) (.ref i2)/\(∃a b,IsPair h TO a b)/\h.IsTupleIter i1 l1 (i+1)/\h.IsTupleIter i2 l2 (i+1)/\h.IsTuple l1 xs/\h.IsTuple l2 ys/\T≠z/\T≠TO/\T≠i1/\T≠i2) where
 sub:=by simp
 frame:=fun i h h' ⟨h1,h2,⟨a,b,h3⟩,h4,h5,h6,h7⟩ k=>⟨k z (by simp) _ h1,k TI (by simp) _ h2,⟨a,b,k TO (by simp) _ h3⟩,h4.at (k i1 (by simp)),h5.at (k i2 (by simp)),h6.at (k l1 (by simp)),h7.at (k l2 (by simp))⟩
 item:=fun i s Q E hi ⟨h1,h2,⟨a,b,h3⟩,h4,h5,h6,h7⟩ hQ=>by
  have hx:xs[i]?=some xs[i]:=Array.getElem?_eq_getElem hi
  have hy:ys[i]?=some (ys[i]'(Nat.lt_of_lt_of_le hi hl)):=Array.getElem?_eq_getElem _
  refine wpAny_bind (wpAny_attempt (wpAny_callSpecial?_slot (i6 h1) F.slot_zip_next (wpAny_call_entry F.slot_zip_next (i6 h1) F.entry_zip_next (Aw D h1 h2 h3 h4 h5 h6 h7 hx hy fun h' z' o' a' b' t' sz k=>wpAny_pure ?_) (F.args_zip_next_1 _))))
  refine hQ _ _ h' s.toks ⟨_,_,hx,hy,rfl⟩ (Nat.le_refl _) ⟨_,t',rfl,_,rfl⟩ ⟨z',k TI _ D.TIz D.TITO D.TIi1 D.TIi2 h2,⟨_,_,o'⟩,a',b',h6.at fun o e=>k l1 o D.l1z D.l1TO D.l1i1 D.l1i2 e,h7.at fun o e=>k l2 o D.l2z D.l2TO D.l2i1 D.l2i2 e,?_,?_,?_,?_⟩ fun b o hb e=>?_
  ·exact(Nat.ne_of_lt (Heap.lt_size h1)).symm
  ·exact(Nat.ne_of_lt (Heap.lt_size h3)).symm
  ·obtain⟨o,e,_⟩:=h4
   exact(Nat.ne_of_lt (Heap.lt_size e)).symm
  ·obtain⟨o,e,_⟩:=h5
   exact(Nat.ne_of_lt (Heap.lt_size e)).symm
  ·simp only[List.mem_cons,List.not_mem_nil,or_false,not_or]at hb
   exact k b o hb.1 hb.2.1 hb.2.2.1 hb.2.2.2 e
 go:=fun elts k pos i T s Q E ⟨h1,h2,⟨a,b,h3⟩,h4,h5,h6,h7,_⟩ hQ=>wpAny_letOwnedTupleGo_zip h1 fun h' z' k'=>hQ h' ⟨z',(k'.2 _ D.TIz).trans h2,⟨a,b,(k'.2 _ D.TOz).trans h3⟩,h4.extBut k'.extBut D.i1z,h5.extBut k'.extBut D.i2z,h6.extBut k'.extBut D.l1z,h7.extBut k'.extBut D.l2z⟩ fun b o hb e=>(k'.2 b fun q=>hb (by rw[q];exact List.mem_cons_self ..)).trans e
 apart:=fun i T h ⟨_,_,_,_,_,_,_,n1,n2,n3,n4⟩ hm=>by
  simp only[List.mem_cons,List.not_mem_nil,or_false]at hm
  rcases hm with e | e | e | e
  ·exact n1 e
  ·exact n2 e
  ·exact n3 e
  ·exact n4 e
 done:=fun s Q E ⟨h1,h2,⟨a,b,h3⟩,h4,h5,h6,h7⟩ hQ=>by
  have hx:xs[xs.size]?=none:=Array.getElem?_eq_none (Nat.le_refl _)
  refine wpAny_bind (wpAny_attempt (wpAny_callSpecial?_slot (i6 h1) F.slot_zip_next (wpAny_call_entry F.slot_zip_next (i6 h1) F.entry_zip_next (Dg hA D h1 h2 h4 h6 hx fun h' e k ho=>?_) (F.args_zip_next_1 _))))
  obtain⟨o,ho,hc⟩:=ho
  refine wpAny_bind (wpAny_isInstance ⟨o,ho,hc⟩ isSubtype_stop (wpAny_pure (hQ h' s.toks fun b o hb e=>?_)))
  simp only[List.mem_cons,List.not_mem_nil,or_false,not_or]at hb
  exact k b o hb.1 hb.2.1 hb.2.2.1 hb.2.2.2 e
 self:=fun i s Q E ⟨h1,_⟩ q=>wpAny_pyIter_zip h1 q
end
section
variable{prog:Program}{w:World}{A:Around}{E:Value->Shared->Prop}{s:Shared}
theorem i7{M:Model}{T:String}{vs:List Value}{Q:Value->Shared->Prop}(h:Q (.ref s.heap.objs.size) { s with heap:=s.heap.push { cls:=.type T,data:=.fields vs.toArray } })(hs:sizeOk (.fields vs.toArray)):wpAny M A (Builtin.SmallTypes.newRecord (.type T) vs) Q E s:=wpAny_newObj_type h hs
theorem Md{l1 l2:Addr}{xs ys:Array Value}{Q:Value->Shared->Prop}(g1:s.heap.IsTuple l1 xs)(g2:s.heap.IsTuple l2 ys)
  (hQ:∀h',IsZip h' (s.heap.objs.size+4) (s.heap.objs.size+2) (s.heap.objs.size+3) .none->IsPair h' (s.heap.objs.size+2) (.ref s.heap.objs.size) (.ref (s.heap.objs.size+1))->IsPair h' (s.heap.objs.size+3) .none .none ->
   h'.IsTupleIter s.heap.objs.size l1 0->h'.IsTupleIter (s.heap.objs.size+1) l2 0->(∀c o,s.heap.get? c=some o->h'.get? c=some o)->Q (.ref (s.heap.objs.size+4)) { s with heap:=h' }) :
  wpAny (model prog w) A (call (.type "zip") [.ref l1,.ref l2]) Q E s:=by
 refine callType_new (S:=fun A R s'=>s'=s/\∀h',IsZip h' (s.heap.objs.size+4) (s.heap.objs.size+2) (s.heap.objs.size+3) .none->IsPair h' (s.heap.objs.size+2) (.ref s.heap.objs.size) (.ref (s.heap.objs.size+1))->IsPair h' (s.heap.objs.size+3) .none .none ->
   h'.IsTupleIter s.heap.objs.size l1 0->h'.IsTupleIter (s.heap.objs.size+1) l2 0->(∀c o,s.heap.get? c=some o->h'.get? c=some o)->R (.ok (.ret (.ref (s.heap.objs.size+4)))) { s with heap:=h' }) F.called_zip rfl (F.typeCall_zip_2 _ _) (F.newCall_zip_2 _ _) (fun _=>F.args_object_init_3 _ _ _) F.entry_zip_new (.of_wp fun prog w A R s' hR=>?_) ⟨rfl,fun h' z1 z2 z3 z4 z5 k=>⟨⟨_,z1,rfl⟩,hQ h' z1 z2 z3 z4 z5 k⟩⟩
 obtain⟨rfl,hR⟩:=hR
 obtain⟨h0,gg,dd,tt,oo⟩:=s'
 refine wpAny_bind (wpAny_bind (wpAny_pure (wpAny_ite_false rfl (wpAny_bind (wpAny_of_eq sub_zip (wpAny_ite_false rfl (wpAny_pure ?_)))))))
 let h1:=h0.push { cls:=.type "tuple_iterator",data:=.fields #[.ref l1,.int 0 0] }
 let h2:=h1.push { cls:=.type "tuple_iterator",data:=.fields #[.ref l2,.int 0 0] }
 let h3:=h2.push { cls:=.type "tuple",data:=.seq #[.ref h0.objs.size,.ref h1.objs.size] }
 let h4:=h3.push { cls:=.type "tuple",data:=.seq #[.none,.none] }
 have e1:h1.objs.size=h0.objs.size+1:=Heap.size_push ..
 have e2:h2.objs.size=h0.objs.size+2:=(Heap.size_push ..).trans (congrArg (· + 1) e1)
 have e3:h3.objs.size=h0.objs.size+3:=(Heap.size_push ..).trans (congrArg (· + 1) e2)
 have e4:h4.objs.size=h0.objs.size+4:=(Heap.size_push ..).trans (congrArg (· + 1) e3)
 have g2':h1.IsTuple l2 ys:=g2.at fun o e=>Heap.get?_push_of_some _ e
 have p0:h1.get? h0.objs.size=some { cls:=.type "tuple_iterator",data:=.fields #[.ref l1,.int 0 0] }:=Heap.get?_push_size _ rfl
 have p1:h2.get? h1.objs.size=some { cls:=.type "tuple_iterator",data:=.fields #[.ref l2,.int 0 0] }:=Heap.get?_push_size _ rfl
 have p2:h3.get? h2.objs.size=some { cls:=.type "tuple",data:=.seq #[.ref h0.objs.size,.ref h1.objs.size] }:=Heap.get?_push_size _ rfl
 have p3:h4.get? h3.objs.size=some { cls:=.type "tuple",data:=.seq #[.none,.none] }:=Heap.get?_push_size _ rfl
 have u:∀{h:Heap} {o:Obj} {c:Addr} {q:Obj},h.get? c=some q->(h.push o).get? c=some q:=fun e=>Heap.get?_push_of_some _ e
 refine wpAny_ite_false rfl (wpAny_bind (wpAny_bind (Dc (u:=#[.ref h0.objs.size]) (v:=#[.ref h0.objs.size,.ref h1.objs.size]) (wpAny_bind (wpAny_holding (wpAny_pyIter_tuple g1 (wpAny_pure ⟨rfl,wpAny_bind (wpAny_holding (wpAny_pyIter_tuple g2' (wpAny_pure ⟨rfl,wpAny_pure ?_⟩)))⟩)))))))
 refine wpAny_bind (wpAny_newTuple (wpAny_bind (wpAny_newTuple (wpAny_bind (i7 (wpAny_pure ⟨_,rfl,?_⟩) ?_)) (by show 2<=sizeLine;decide))) (by show 2<=sizeLine;decide))
 ·have hz:=Heap.get?_push_size h4 (o:={ cls:=.type "zip",data:=.fields #[.none,.bool false,.bool false,.ref h2.objs.size,.ref h3.objs.size] }) rfl
  have q:=hR (h4.push { cls:=.type "zip",data:=.fields #[.none,.bool false,.bool false,.ref h2.objs.size,.ref h3.objs.size] })
  rw[show(Shared.mk h0 gg dd tt oo).heap.objs.size=h0.objs.size from rfl,<-e1,<-e2,<-e3,<-e4]at q
  exact q hz (u (u p2)) (u p3) ⟨_,u (u (u (u p0))),rfl,rfl⟩ ⟨_,u (u (u p1)),rfl,rfl⟩ fun c o e=>u (u (u (u (u e))))
 ·show 5<=sizeLine+2
  decide
end
noncomputable def Vg(sq:Hp->Addr->List V->Prop)(a b:Addr):It :=
  ⟨fun i H=>∃xs ys x y,sq H a xs/\sq H b ys/\xs.length<=ys.length/\xs[i]?=some x/\ys[i]?=some y,fun i H v H'=>∃T x y,v = .ref T/\H T=none/\H'=upd H T (.tup [x,y])/\(∀xs,sq H a xs->xs[i]?=some x)/\∀ys,sq H b ys->ys[i]?=some y,
   fun i H=>∃xs ys,sq H a xs/\sq H b ys/\xs.length<=ys.length/\xs.length=i⟩
noncomputable def Nw(isIt:Heap->Addr->Addr->Nat->Prop)(z TI TO i1 i2 a b:Addr)(i:Nat)(h:Heap):Prop:=IsZip h z TI TO .none/\IsPair h TI (.ref i1) (.ref i2)/\(∃u v,IsPair h TO u v)/\isIt h i1 a i/\isIt h i2 b i
section
variable{P:Program}{w:World}{K:PySem.W.Frag}{elts:List Expr}{kk:Nat}{tp:Pos}{isIt:Heap->Addr->Addr->Nat->Prop}{isq:Heap->Addr->Array Value->Prop}{sq:Hp->Addr->List V->Prop}
theorem Fl(oI:∀h c l i,isIt h c l i->∃o,h.get? c=some o/\∀v,o.data≠ .cell v)(kI:∀h h' c l i,isIt h c l i->(∀o,h.get? c=some o->h'.get? c=some o)->isIt h' c l i)
  (gI:∀(X:Cx) pins σ H s c xs,X.K=K->Inv X pins σ H s->sq H c xs->∃its,Vals xs its/\isq s.heap c its.toArray) (uI:∀(X:Cx) pins σ H s c xs ys,X.K=K->Inv X pins σ H s->sq H c xs->sq H c ys->xs=ys)
  (z TI TO i1 i2 a b:Addr) (WI:∀(A:Around),A.handled=none->∀xs ys:Array Value,xs.size<=ys.size->WalksT P w A z [z,TI,TO,i1,i2,a,b] [z,TO,i1,i2] xs.size (fun i vals=>∃x y,xs[i]?=some x/\ys[i]?=some y/\vals = #[x,y])
   (fun i h=>IsZip h z TI TO .none/\IsPair h TI (.ref i1) (.ref i2)/\(∃a b,IsPair h TO a b)/\isIt h i1 a i/\isIt h i2 b i/\isq h a xs/\isq h b ys)
   (fun i T h=>IsZip h z TI TO (rawInt T)/\IsPair h TI (.ref i1) (.ref i2)/\(∃a b,IsPair h TO a b)/\isIt h i1 a (i+1)/\isIt h i2 b (i+1)/\isq h a xs/\isq h b ys/\T≠z/\T≠TO/\T≠i1/\T≠i2)) :
  Turn P w K (.Tuple elts kk tp) (Vg sq a b) [z,TI,TO,i1,i2] z (Nw isIt z TI TO i1 i2 a b) where
 mem:=List.mem_cons_self ..
 obj:=fun i h st c hc=>by
  obtain⟨h1,h2,⟨u,v,h3⟩,h4,h5⟩:=st
  simp only[List.mem_cons,List.not_mem_nil,or_false]at hc
  rcases hc with rfl | rfl | rfl | rfl | rfl
  ·exact⟨_,h1,fun v z=>by cases z⟩
  ·exact⟨_,h2,fun v z=>by cases z⟩
  ·exact⟨_,h3,fun v z=>by cases z⟩
  ·exact oI _ _ _ _ h4
  ·exact oI _ _ _ _ h5
 keep:=fun i h h' st k=>by
  obtain⟨h1,h2,⟨u,v,h3⟩,h4,h5⟩:=st
  exact⟨k z (by simp) _ h1,k TI (by simp) _ h2,⟨u,v,k TO (by simp) _ h3⟩,kI _ _ _ _ _ h4 (k i1 (by simp)),kI _ _ _ _ _ h5 (k i2 (by simp))⟩
 item:=by
  intro X hP hw hK hc i pins s σ H E I hf st hg
  subst hP hw
  obtain⟨xs,ys,x,y,hq,hr,hle,hx,hy⟩:=hg
  obtain⟨its,rv,p⟩:=gI _ _ _ _ _ _ _ hK I hq
  obtain⟨jts,rw_,p'⟩:=gI _ _ _ _ _ _ _ hK I hr
  obtain⟨u,hu,ru⟩:=rv.get hx
  obtain⟨v,hv,rv'⟩:=rw_.get hy
  have hl:=rv.length
  have hl':=rw_.length
  have W:=WI X.A (I.ok.hd hc) its.toArray jts.toArray (by rw[List.size_toArray,List.size_toArray,<-hl,<-hl'];exact hle)
  have hi:i<its.toArray.size:=by rw[List.size_toArray];exact(List.getElem?_eq_some_iff.mp hu).1
  obtain⟨s1,s2,s3,s4,s5⟩:=id st
  refine W.item i s _ _ hi ⟨s1,s2,s3,s4,s5,p,p'⟩ fun T vals h' tk hvs hT ht hm k=>?_
  obtain⟨x',y',hx',hy',rfl⟩:=hvs
  have ex:x'=u:=Option.some.inj (hx'.symm.trans ((List.getElem?_toArray ..).trans hu))
  have ey:y'=v:=Option.some.inj (hy'.symm.trans ((List.getElem?_toArray ..).trans hv))
  subst ex ey
  refine⟨.ref T,rfl,W.go elts kk tp i T _ _ _ hm fun h2 st2 k2=>?_⟩
  have kk2:∀b o,b∉[z,TI,TO,i1,i2]->s.heap.get? b=some o->h2.get? b=some o:=fun c o hc' ec=>by
   have n4:c∉[z,TO,i1,i2]:=fun m=>hc' (by
    simp only[List.mem_cons,List.not_mem_nil,or_false]at m⊢
    exact m.imp_right .inr)
   exact k2 c o n4 (k c o n4 ec)
  have hT2:h2.IsTuple T #[x',y']:=ht.at fun o e=>k2 T o (W.apart i T h' hm) e
  have gone:∀c∈[z,TI,TO,i1,i2],∃ob,s.heap.get? c=some ob:=fun c hc'=>by
   obtain⟨u3,v3,h3⟩:=s3
   obtain⟨o4,h4,_⟩:=oI _ _ _ _ s4
   obtain⟨o5,h5,_⟩:=oI _ _ _ _ s5
   simp only[List.mem_cons,List.not_mem_nil,or_false]at hc'
   rcases hc' with rfl | rfl | rfl | rfl | rfl
   ·exact⟨_,s1⟩
   ·exact⟨_,s2⟩
   ·exact⟨_,h3⟩
   ·exact⟨_,h4⟩
   ·exact⟨_,h5⟩
  refine⟨.ref T,upd H T (.tup [x,y]),I.turnLaid (fp:=[z,TI,TO,i1,i2]) kk2 hf gone hT ⟨?_,[x',y'],.cons ru (.cons rv' .nil),hT2⟩,rfl,⟨T,x,y,rfl,I.hok.fresh hT,rfl,fun zs hz=>by rw[uI _ _ _ _ _ _ _ _ hK I hz hq];exact hx,fun zs hz=>by rw[uI _ _ _ _ _ _ _ _ hK I hz hr];exact hy⟩,⟨st2.1,st2.2.1,st2.2.2.1,st2.2.2.2.1,st2.2.2.2.2.1⟩,fun c hc'=>?_⟩
  ·show 2<=sizeLine
   decide
  ·obtain⟨ob,eb⟩:=gone c hc'
   rw[B6 (Nat.ne_of_lt (Nat.lt_of_lt_of_le (Heap.lt_size eb) hT))]
   exact(hf c hc').1
 done:=by
  intro X hP hw hK hc i pins s σ H E I hf st hg
  subst hP hw
  obtain⟨xs,ys,hq,hr,hle,hx⟩:=hg
  obtain⟨its,rv,p⟩:=gI _ _ _ _ _ _ _ hK I hq
  obtain⟨jts,rw_,p'⟩:=gI _ _ _ _ _ _ _ hK I hr
  have hl:=rv.length
  have hl':=rw_.length
  have W:=WI X.A (I.ok.hd hc) its.toArray jts.toArray (by rw[List.size_toArray,List.size_toArray,<-hl,<-hl'];exact hle)
  have hi:i=its.toArray.size:=by rw[List.size_toArray,<-hl,hx]
  obtain⟨s1,s2,s3,s4,s5⟩:=id st
  rw[hi]at s4 s5
  refine W.done s _ _ ⟨s1,s2,s3,s4,s5,p,p'⟩ fun h' tk k=>⟨rfl,?_⟩
  have nf:∀b u,H b=some u->b∉[z,TI,TO,i1,i2]:=fun b u e hb=>by rw[(hf b hb).1]at e;cases e
  have k':∀c o,c∉[z,TI,TO,i1,i2]->s.heap.get? c=some o->h'.get? c=some o:=fun c o hc' ec=>k c o (fun m=>hc' (by
    simp only[List.mem_cons,List.not_mem_nil,or_false]at m⊢
    exact m.imp_right .inr)) ec
  refine I.step (h':=h') (H':=H) (t':=tk) (g':=s.gens) (d':=s.drawn) (ch:=[z,TI,TO,i1,i2]) (fun b hb=>let⟨_,f1,_,f3,f4,f5⟩:=hf b hb;⟨f3,f1,f4,f5⟩) (fun b ob _ _ hc e _=>k' b ob hc e) (fun b ob _ _ hc e _=>⟨ob.slots,k' b ob hc e⟩) (fun _ _ _ _ n=>n)
   (fun b ob hc e=>⟨ob,k' b ob hc e⟩) (fun _ _ e=>e) (fun _ _ _ e=>e) (fun b ps e=>⟨#[],by rw[e];simp⟩) (fun m hm=>?_) (fun b u eb=>?_) I.bare
  ·obtain⟨ob,es,ep,ho,r⟩:=hm
   exact⟨ob,es,ep,k' _ ob (fun hb=>(hf _ hb).2.1 rfl) ho,r⟩
  ·refine(I.hok b u eb).stay (fun c v hc q=>k' c v ?_ q) (fun _ q=>q) fun _ _ q=>q
   rcases hc with z | z
   ·rw[z];exact nf b u eb
   ·exact nf c _ z
 self:=fun A i s Q E st h=>wpAny_pyIter_zip st.1 h
theorem Lx(z TI TO i1 i2 a b:Addr)(D:ZipApart z TI TO i1 i2 a b):Turn P w K (.Tuple elts kk tp) (Vg (SqL K) a b) [z,TI,TO,i1,i2] z (Nw Heap.IsListIter z TI TO i1 i2 a b) :=
 Fl (isq:=Heap.IsList) (fun h c l i ⟨o,e,_,d⟩=>⟨o,e,fun v z=>by rw[d]at z;cases z⟩) (fun h h' c l i z k=>z.at k) (fun X pins σ H s c xs hK I hq=>by subst hK;obtain⟨its,rv,p,_⟩:=I.list hq;exact⟨its,rv,p.isList⟩) (fun X pins σ H s c xs ys hK I hq hr=>by subst hK;exact I.list_inj hq hr)
  z TI TO i1 i2 a b fun A hA xs ys hl=>by
   have W:=WalksT.zip2 (prog:=P) (w:=w) hA z TI TO i1 i2 a b D xs ys
   rwa [Nat.min_eq_left hl]at W
theorem Lb(z TI TO i1 i2 a b:Addr)(D:ZipApart z TI TO i1 i2 a b):Turn P w K (.Tuple elts kk tp) (Vg (SqT K) a b) [z,TI,TO,i1,i2] z (Nw Heap.IsTupleIter z TI TO i1 i2 a b) :=
 Fl (isq:=Heap.IsTuple) (fun h c l i ⟨o,e,_,d⟩=>⟨o,e,fun v z=>by rw[d]at z;cases z⟩) (fun h h' c l i z k=>z.at k) (fun X pins σ H s c xs hK I hq=>by subst hK;obtain⟨its,rv,p,_⟩:=I.tuple hq;exact⟨its,rv,p⟩) (fun X pins σ H s c xs ys hK I hq hr=>by subst hK;exact I.tuple_inj hq hr)
  z TI TO i1 i2 a b fun A hA xs ys hl=>Tp hA z TI TO i1 i2 a b D xs ys hl
end
section
variable{X:Cx}{elts:List Expr}{kk:Nat}{tp:Pos}
noncomputable def zAr(K:PySem.W.Frag)(R:It->Hp->Prop)(a b:Addr)(xs ys:List V)(H:Hp):Prop:=SqL K H a xs/\SqL K H b ys/\R (Vg (SqL K) a b) H\/SqT K H a xs/\SqT K H b ys/\R (Vg (SqT K) a b) H
noncomputable def Wl(K:PySem.W.Frag)(ta:TA):TI:=fun σ H R=>ta σ H fun vs H1=>∃a b xs ys,vs = [.ref a,.ref b]/\zAr K R a b xs ys H1
theorem Ms:bootBuiltins "zip" = some (.type "zip"):=by decide +kernel
theorem Su{a b:Expr}{ta:TA}{p pos:Pos}(hg:Gl X "zip")(hm:X.mg "zip" = none)(ha:PA X [a,b] ta)(hs:starEach [a,b] X.env =(false,eval a X.env)::starEach [b] X.env:=by rfl)(hpl:(backTo pos (starEach [b] X.env)).any (·.1)=false:=by rfl):PI X (.Tuple elts kk tp) (.Call (.Name "zip" p) [a,b] [] pos) (Wl X.K ta):=by
 intro pins s σ H R I h
 refine Call_ (g9 I hg hm Ms (PyProof.Rows.callWith_type1 (thn (ha pos pins s σ H _ I h) fun us s1 ⟨vs,H1,I1,r1,q1⟩=>?_) hs hpl))
 obtain⟨l,m,xs,ys,e,q⟩:=q1
 subst e
 obtain⟨u,v,rfl,ru,rv⟩:=r1.two
 cases ru
 cases rv
 have fpk:∀c∈[s1.heap.objs.size+4,s1.heap.objs.size+2,s1.heap.objs.size+3,s1.heap.objs.size,s1.heap.objs.size+1],p8 X pins H1 c:=fun c hc=>by
  have hc':s1.heap.objs.size<=c:=by
   simp only[List.mem_cons,List.not_mem_nil,or_false]at hc
   rcases hc with rfl | rfl | rfl | rfl | rfl
   ·exact Nat.le_add_right ..
   ·exact Nat.le_add_right ..
   ·exact Nat.le_add_right ..
   ·exact Nat.le_refl _
   ·exact Nat.le_add_right ..
  exact I1.fpOk hc' (I1.hok.fresh hc')
 rcases q with⟨hq,hr,q⟩ | ⟨hq,hr,q⟩
 ·obtain⟨its,rx,pl,hz⟩:=I1.list hq
  obtain⟨jts,ry,pm,hz'⟩:=I1.list hr
  have a1:l<s1.heap.objs.size:=by obtain⟨_,e,_⟩:=pl.isList;exact Heap.lt_size e
  have a2:m<s1.heap.objs.size:=by obtain⟨_,e,_⟩:=pm.isList;exact Heap.lt_size e
  refine call_zip_2 pl.isList pm.isList fun h' g1 g2 g3 g4 g5 hsz k=>wpAny_pyIter_zip g1 ?_
  exact⟨s1.heap.objs.size+4,_,_,_,H1,rfl,I1.kept (t':=s1.toks) k,Lx _ _ _ _ _ l m (zipApart_new a1 a2),⟨g1,g2,⟨_,_,g3⟩,g4,g5⟩,fpk,q⟩
 ·obtain⟨its,rx,pl,hz⟩:=I1.tuple hq
  obtain⟨jts,ry,pm,hz'⟩:=I1.tuple hr
  have a1:l<s1.heap.objs.size:=by obtain⟨_,e,_⟩:=id pl;exact Heap.lt_size e
  have a2:m<s1.heap.objs.size:=by obtain⟨_,e,_⟩:=id pm;exact Heap.lt_size e
  refine Md pl pm fun h' g1 g2 g3 g4 g5 k=>wpAny_pyIter_zip g1 ?_
  exact⟨s1.heap.objs.size+4,_,_,_,H1,rfl,I1.kept (t':=s1.toks) k,Lb _ _ _ _ _ l m (zipApart_new a1 a2),⟨g1,g2,⟨_,_,g3⟩,g4,g5⟩,fpk,q⟩
variable(K:PySem.W.Frag)
theorem zBo{a b:Expr}{ta:TA}{p pos:Pos}(hm:X.mg "zip" = none)(ha:PA X [a,b] ta)(hg:Gl X "zip":=by rfl)(hs:starEach [a,b] X.env =(false,eval a X.env)::starEach [b] X.env:=by rfl)(hpl:(backTo pos (starEach [b] X.env)).any (·.1)=false:=by rfl)(hK:X.K=K:=by rfl):PI X (.Tuple elts kk tp) (.Call (.Name "zip" p) [a,b] [] pos) (Wl K ta):=by subst hK;exact Su hg hm ha hs hpl
end
section
variable{X:Cx}{tg iter elt:Expr}{ifs:List Expr}{scope:Scope}{cl:List (Str×Addr)}{N':List Str}{cap:List (Option Nat)}{wi:TI}{pos:Pos}
theorem Oo{e:Expr}{gs:List Comprehension}{newAcc:Sem Value}{p2:Pos}{use:Option (Value->Sem Unit)}{Qv:Value->Shared->Prop}(hcl:clausesOf e =⟨tg,iter,ifs,0⟩::gs)(o:Addr->HO)(hs:∀x,foldedSetIterable iter X.env x=pure x)(S:CScope X scope cl N' cap)(hc:X.calm=true)(hi:PI X tg iter wi)
  {lp:Addr->It->St->Hp->(St->Hp->Prop)->Prop}
  (hnew:∀(pins:List (Addr×Obj)) (s:Shared) (σ:St) (H:Hp) (Q:Value->Shared->Prop) (E:Value->Shared->Prop),Inv X pins σ H s->(∀s',Inv X pins σ (upd H s.heap.objs.size (o s.heap.objs.size)) s'->(∀b ob,s.heap.get? b=some ob->s'.heap.get? b=some ob)->Q (.ref s.heap.objs.size) s')->wpAny (model X.prog X.w) X.A newAcc Q E s)
  (hlp:∀(pins:List (Addr×Obj)) (ex:List Addr) (s3:Shared) (H3:Hp) (D it:Addr) (fp:List Addr) (tn:Nat->Heap->Prop) (J:It) (σ:St) (s:Shared) (H:Hp) (Q:St->Hp->Prop) (R:Result->Shared->Prop),
   Turn X.prog X.w X.K tg J fp it tn->Inv (cxC X scope cl N' pins ex s3 H3) [] σ H s->tn 0 s.heap->(∀b∈fp,p8 (cxC X scope cl N' pins ex s3 H3) [] H b)->lp D J σ H Q ->
   (∀s' σ' H',Inv (cxC X scope cl N' pins ex s3 H3) [] σ' H' s'->Q σ' H'->R (.ok .next) s') ->
   codeAny (model X.prog X.w) X.A (.compLoop e 0 (.ref it) (.ref D) (compEnvC scope cl s3.heap.objs.size X.env)) R s)
  (hun:∀it D env,X.A.under (.compStart e 0 (.ref it) (.ref D) env)=X.A) (hden:∀it D env,(model X.prog X.w).den (.compStart e 0 (.ref it) (.ref D) env) =(compStart e 0 (.ref it) (.ref D) env).onRaise (fun x=>do noteFrame x env;standAt theWindowsPlace))
  {pins:List (Addr×Obj)} {s:Shared} {σ:St} {H:Hp} {Q:V->Hp->Prop} (I:Inv X pins σ H s) (h:t9 wi o cap lp σ H Q)
  (hend:∀(D:Addr) (fp:List Addr) (H2:Hp) (s3 s':Shared) (σ':St) (H':Hp),Inv X pins σ H2 s3->(∀b∈fp,p8 X pins H2 b)->Inv (cxC X scope cl N' pins fp s3 H2) [] σ' H' s'->Q (.ref D) H'->compPost (model X.prog X.w) X.A X.xe use Qv (.ref D) s3.heap.objs.size (.ok .next) s') :
  wpAny (model X.prog X.w) X.A (comprehension e scope X.env p2 newAcc false (eval iter X.env) use) Qv X.xe s:=by
 refine wpAny_comprehension_free hcl hs S.clos S.kind S.loc (thn (hi pins s σ H _ I h) fun v s1 h1=>thn h1 fun itv s2 h2=>?_)
 obtain⟨it,fp,tn,J,H2,eit,I2,T,st2,f2,R2⟩:=h2
 subst eit
 refine hnew pins s2 σ H2 _ _ I2 fun s3 I3 k3=>?_
 have hD:H2 s2.heap.objs.size=none:=I2.hok.fresh (Nat.le_refl _)
 have fok:∀b∈fp,p8 X pins (upd H2 s2.heap.objs.size (o s2.heap.objs.size)) b/\∃ob,s3.heap.get? b=some ob:=fun b hb=>by
  obtain⟨ob,e,_⟩:=T.obj _ _ st2 b hb
  obtain⟨f0,fr⟩:=f2 b hb
  exact⟨⟨by rw[B6 (Nat.ne_of_lt (Heap.lt_size e))];exact f0,fr⟩,ob,k3 b ob e⟩
 refine wpAny_newFunctionEnv S.nocell (by intro y hy;simp at hy) (fun h1 hns hsb=>?_) S.kind
 have hk:∀b ob,s3.heap.get? b=some ob->h1.get? b=some ob:=fun b ob e=>(hsb.2 b (Nat.ne_of_lt (Heap.lt_size e))).trans (Heap.get?_push_of_some _ e)
 have I4:Inv (cxC X scope cl N' pins fp s3 (upd H2 s2.heap.objs.size (o s2.heap.objs.size))) [] (Ih cap σ) (upd H2 s2.heap.objs.size (o s2.heap.objs.size)) { s3 with heap:=h1,toks:=s3.toks +([]:List (Str×Value)).length } :=
  I3.block S hc fok hns hk
 have st4:tn 0 h1:=T.keep 0 _ _ st2 fun b hb ob e=>hk b ob (k3 b ob e)
 refine S0 (X:=cxC X scope cl N' pins fp s3 (upd H2 s2.heap.objs.size (o s2.heap.objs.size))) (gs:=⟨tg,iter,ifs,0⟩::gs) (e:=e) (d:=0) (tg:=tg) (iter:=iter) (ifs:=ifs) (hun _ _ _) (hden _ _ _) hcl rfl T st4 ?_
 refine hlp pins fp s3 _ s2.heap.objs.size it fp tn J (Ih cap σ) _ _ _ _ T I4 st4 (fun b hb=>?_) (R2 _ hD) fun s' σ' H' I' q'=>?_
 ·obtain⟨⟨f0,f1,f2',f3,f4,f5⟩,ob,eo⟩:=fok b hb
  refine⟨f0,Nat.ne_of_lt (Heap.lt_size eo),fun hf=>?_,.inl hb,fun x c e=>f4 x c (S.cin.get e),fun p hp=>f5 p (by simpa [cxC] using hp)⟩
  rcases List.mem_cons.mp (I3.stkSub b hf)with z | z
  ·exact f1 z
  ·exact f2' z
 ·exact hend _ fp _ s3 s' σ' H' I3 (fun b hb=>(fok b hb).1) I' q'
theorem o9{i:Nat}{x:Str}{pos' cpos:Pos}{g:TG}{tc:TT}{te:TE}(hN:X.N.Nodup)(hi:X.N[i]?=some x)(hx:Loc X.env.scope x)(S:CScope X scope cl N' cap)(hc:X.calm=true)(hI:PI X tg iter wi)
  (hb:∀(pins:List (Addr×Obj)) (ex:List Addr) (s3:Shared) (H3:Hp),PG (cxC X scope cl N' pins ex s3 H3) tg g/\PTs (cxC X scope cl N' pins ex s3 H3) ifs tc/\PE (cxC X scope cl N' pins ex s3 H3) elt te)
  (hs:∀x,foldedSetIterable iter X.env x=pure x:=by intro _;rfl)
  (hsw:swapsWith (.ListComp elt [⟨tg,iter,ifs,0⟩] scope cpos) (some (.Name x pos')) pos.line X.env=pure true:=by rfl)
  (hf:X.fn x=true\/X.env.scope.names.lookup x=some .local:=by first | exact .inl rfl | exact .inr rfl | assumption) :
  PS X (.Assign [.Name x pos'] (.ListComp elt [⟨tg,iter,ifs,0⟩] scope cpos) pos) (Oy (t9 wi (fun _=>.lst []) cap fun D J σ H Q=>Aq g tc (Df D te) J σ H Q) (K7 i)):=by
 intro pins s σ H D I h
 rw[exec_Assign]
 refine wpAny_bind (wpAny_standAt (wpAny_bind (wpAny_of_eq hsw (wpAny_ite_true rfl (wpAny_bind (wpAny_bind ?_))))))
 refine Oo (newAcc:=newList []) (p2:=firstIterPos [⟨tg,iter,ifs,0⟩] cpos) rfl (fun _=>.lst []) hs S hc hI (fun pins s σ H Q E I h=>?_) (fun pins ex s3 H3 D it fp tn J σ s H Q R T I st hf h hR=>?_) (fun _ _ _=>rfl) (fun _ _ _=>rfl) I h fun E fp H2 s3 s' σ' H' I3 fok I' q=>?_
 ·refine wpAny_newList ?_
  exact h _ (I.lnew (t':=s.toks) (its:=[]) .nil (Nat.zero_le _)) fun b ob e=>Heap.get?_push_of_some _ e
 ·obtain⟨b1,b2,b3⟩:=hb pins ex s3 H3
  exact O9 (X:=cxC X scope cl N' pins ex s3 H3) rfl rfl hc rfl (Y3 elt tg iter ifs scope cpos _ _ _) b1 b2 (Bw rfl b3) T I st hf h hR
 ·have IX:Inv X pins σ H' s':=I3.unblock fok I' ⟨rfl,fun _ _=>rfl⟩
  have fC:p8 X pins H' s3.heap.objs.size:=I3.fpOk (Nat.le_refl _) I'.free
  obtain⟨m,hn,_⟩:=I'.loc
  show wpAny _ _ (assign (.Name x pos') X.env (.ref E)) _ _ _
  refine wpAny_assign_Name (Ec (v:=.ref E) IX hN hi hx rfl (fun s2 I2 ⟨a,hsb,ha⟩=>?_) hf)
  have nC:s3.heap.objs.size≠a:=by
   rcases ha with rfl | ha
   ·exact fC.2.1
   ·exact(fC.2.2.2.2.1 _ _ ha).symm
  refine⟨m,?_,fun h' hsb'=>wpAny_pure (wpAny_pure ?_)⟩
  ·obtain⟨ob,es,ep,e1,r⟩:=hn
   exact⟨ob,es,ep,(hsb.2 _ nC).trans e1,r⟩
  refine⟨_,H',?_,q⟩
  have k:∀b ob,b∉[s3.heap.objs.size]->s2.heap.get? b=some ob->h'.get? b=some ob:=fun b ob hb e=>(hsb'.2 b fun z=>hb (List.mem_singleton.mpr z)).trans e
  refine I2.step (h':=h') (H':=H') (t':=s2.toks) (g':=s2.gens) (d':=s2.drawn) (ch:=[s3.heap.objs.size]) (fun b hb=>by rw[List.mem_singleton.mp hb];exact⟨fC.2.2.2.1,fC.2.1,fC.2.2.2.2⟩) (fun b ob _ _ hc e _=>k b ob hc e) (fun b ob _ _ hc e _=>⟨ob.slots,k b ob hc e⟩) (fun _ _ _ _ n=>n)
   (fun b ob hc e=>⟨ob,k b ob hc e⟩) (fun _ _ e=>e) (fun _ _ _ e=>e) (fun b ps e=>⟨#[],by rw[e];simp⟩) (fun m hm=>?_) (fun b u eb=>?_) I2.bare
  ·obtain⟨ob,es,ep,ho,r⟩:=hm
   exact⟨ob,es,ep,k _ ob (fun hb=>fC.2.1 (List.mem_singleton.mp hb).symm) ho,r⟩
  ·have nf:∀b u,H' b=some u->b∉[s3.heap.objs.size]:=fun b u e hb=>by rw[List.mem_singleton.mp hb,fC.1]at e;cases e
   refine(I2.hok b u eb).stay (fun c v hc q=>k c v ?_ q) (fun _ q=>q) fun _ _ q=>q
   rcases hc with z | z
   ·rw[z];exact nf b u eb
   ·exact nf c _ z
end
section
variable{X:Cx}
theorem Zd{x:Str}{C:Addr}{pos:Pos}(h:X.mg x=some (.ref C))(hg:Gl X x:=by rfl)(hd:(x ==("__debug__":Str))=false:=by decide):PE X (.Name x pos) (tC (.ref C)):=Gu hg h rfl hd
end
noncomputable def own(scope:Scope)(cl:List (Str×Addr))(n:Nat):List (Str×Addr):=cellsFrom (n+1) scope.names cl
theorem K8:∀(names:List (Str×NameKind)) (n:Nat) (acc:List (Str×Addr)),cellsFrom n names acc=cellsFrom n names []++acc
 | [],_,_=>rfl
 | (y,k)::r,n,acc=>by
  unfold cellsFrom
  split
  ·rw[K8 r (n+1) ((y,n)::acc),K8 r (n+1) [(y,n)],List.append_assoc];rfl
  ·exact K8 r n acc
theorem Br{α:Type}(x:Str):∀(l m:List (Str×α)),(l++m).lookup x =(l.lookup x).or (m.lookup x)
 | [],m=>rfl
 | (y,c)::r,m=>by
  rw[List.cons_append,List.lookup_cons,List.lookup_cons]
  cases x == y with
  | true=>rfl
  | false=>exact Br x r m
theorem U0{scope:Scope}{cl:List (Str×Addr)}{n:Nat}{x:Str}{c:Addr}(h:(own scope cl n).lookup x=some c):(cellsFrom (n+1) scope.names []).lookup x=some c\/((cellsFrom (n+1) scope.names []).lookup x=none/\cl.lookup x=some c):=by
 unfold own at h
 rw[K8,Br]at h
 cases e:(cellsFrom (n+1) scope.names []).lookup x with
 | some d=>rw[e]at h;exact .inl h
 | none=>rw[e]at h;exact .inr ⟨rfl,h⟩
noncomputable def cxD(X:Cx)(scope:Scope)(cl:List (Str×Addr))(N':List Str)(pins:List (Addr×Obj))(ex:List Addr)(s3:Shared)(H3:Hp):Cx where
 prog:=X.prog
 w:=X.w
 K:=X.K
 mg:=X.mg
 base:=X.base
 A:=X.A
 N:=N'
 s₀:=s3
 H₀:=H3
 env:=compEnvC scope (own scope cl s3.heap.objs.size) s3.heap.objs.size X.env
 outer:=X.stack
 stack:=X.stack
 ex:=ex
 fn:=fun x=>scope.names.lookup x == some .cell
 calm:=X.calm
 pn:=X.pn++pins
 xe:=fun _ _=>False
structure DScope(X:Cx)(scope:Scope)(cl:List (Str×Addr))(N':List Str)(cap:List (Option Nat)):Prop where
 kind:scope.kind = .function
 loc:∀y∈scope.names,y.2 = .local->scope.names.lookup y.1=some .local
 clos:closureFor scope X.env=pure cl
 cin:ClIn X cl
 has:∀n,((relabel scope X.env).names.all fun y=>!(y.2 == .cell||y.2 == .free)||((own scope cl n).lookup y.1).isSome)=true
 caps:∀n,Caps X scope (own scope cl n) N' cap
section
variable{X:Cx}{scope:Scope}{cl:List (Str×Addr)}{N':List Str}{cap:List (Option Nat)}{pins:List (Addr×Obj)}{σ:St}{H3:Hp}{s3:Shared}{ex:List Addr}
theorem Inv.blockD(I:Inv X pins σ H3 s3)(S:DScope X scope cl N' cap)(hc:X.calm=true)(hex:∀b∈ex,p8 X pins H3 b/\∃o,s3.heap.get? b=some o){h1:Heap}{tk:Nat}
  (hns:h1.Ns s3.heap.objs.size (fun _=>none)) (hk:∀b o,s3.heap.get? b=some o->h1.get? b=some o) (ok:CellsOk h1 (s3.heap.objs.size+1) (cellsFrom (s3.heap.objs.size+1) scope.names [])) :
  Inv (cxD X scope cl N' pins ex s3 H3) [] (Ih cap σ) H3 { s3 with heap:=h1,toks:=tk }:=by
 have lt3:∀b o,s3.heap.get? b=some o->b≠s3.heap.objs.size:=fun b o e=>Nat.ne_of_lt (Heap.lt_size e)
 have old:∀x c,cl.lookup x=some c->∃v,s3.heap.IsCell c v:=fun x c e=>I.cell x c (S.cin.get e)
 have new:∀{x c},(cellsFrom (s3.heap.objs.size+1) scope.names []).lookup x=some c->h1.IsCell c none/\s3.heap.objs.size+1<=c:=fun e=>ok.empty _ _ (PySem.mem_of_lookup e)
 have hfree:H3 s3.heap.objs.size=none:=I.hok.fresh (Nat.le_refl _)
 have olt:∀x c,cl.lookup x=some c->c<s3.heap.objs.size:=fun x c e=>let⟨_,h⟩:=old x c e;h.lt
 refine⟨⟨I.ok.mod,?_,I.ok.glob,I.ok.blt,Nat.le_refl _,fun x y c e1 e2=>?_,fun x hx=>?_,fun x c h e=>?_,I.ok.hd,I.ok.frames,.inl rfl,fun b hb=>?_,I.bs,Nat.le_trans I.ok.bsz I.sz,fun b o e hb=>?_,fun b hb=>?_,I.stack,I.stkFree⟩,
  rfl,I.bare,Un.kept hk,⟨_,hns,fun i x v e1 e2 e3=>?_⟩,fun x c e=>?_,hfree,fun x c e=>?_,fun p hp=>?_,I.hok.kept hk,?_⟩
 ·exact S.kind
 ·rcases U0 e1 with a | ⟨_,a⟩<;>rcases U0 e2 with b | ⟨_,b⟩
  ·exact name_of_addr ok.apart (PySem.mem_of_lookup a) (PySem.mem_of_lookup b)
  ·exact absurd (Nat.lt_of_lt_of_le (olt _ _ b) (Nat.le_of_succ_le (new a).2)) (Nat.lt_irrefl _)
  ·exact absurd (Nat.lt_of_lt_of_le (olt _ _ a) (Nat.le_of_succ_le (new b).2)) (Nat.lt_irrefl _)
  ·exact I.ok.inj x y c (S.cin.get a) (S.cin.get b)
 ·have q:∀k,(relabel scope X.env).names.lookup x=some k->(!(k == .cell||k == .free)||((own scope cl s3.heap.objs.size).lookup x).isSome)=true:=fun k e=>d0 (p:=fun _=>true) (q:=fun a k=>!(k == .cell||k == .free)||((own scope cl s3.heap.objs.size).lookup a).isSome) (S.has _) e
  have hx':(relabel scope X.env).names.lookup x=some .cell\/(relabel scope X.env).names.lookup x=some .free:=hx
  have:((own scope cl s3.heap.objs.size).lookup x).isSome=true:=by
   rcases hx' with e | e
   ·exact q _ e
   ·exact q _ e
  exact Option.isSome_iff_exists.mp this
 ·have h:scope.names.lookup x=some .cell:=beq_iff_eq.mp h
  have q:=PySem.W.cellsFrom_some scope.names (s3.heap.objs.size+1) [] (.inl h)
  rcases U0 e with a | ⟨a,_⟩
  ·exact Nat.le_of_succ_le (new a).2
  ·rw[a]at q;cases q
 ·obtain⟨⟨_,_,_,_,f4,_⟩,o,e⟩:=hex b hb
  refine⟨lt3 b o e,fun x c ec=>?_⟩
  rcases U0 ec with a | ⟨_,a⟩
  ·exact Nat.ne_of_gt (Nat.lt_of_lt_of_le (Heap.lt_size e) (Nat.le_of_succ_le (new a).2))
  ·exact f4 x c (S.cin.get a)
 ·obtain⟨⟨f0,f1,f2,f3,_⟩,_⟩:=hex b hb
  rcases f3 with f3 | f3
  ·exact I.ok.noex b o e f3
  ·have:=(I.ok.bs b o e).1
   exact absurd (Nat.lt_of_lt_of_le (Heap.lt_size this) f3) (Nat.lt_irrefl _)
 ·intro hf
  obtain⟨⟨_,f1,f2,_⟩,_⟩:=hex b hb
  rcases List.mem_cons.mp (I.stkSub b hf)with z | z
  ·exact f1 z
  ·exact f2 z
 ·unfold Ih at e2
  rw[List.getElem?_map]at e2
  cases ec:cap[i]? with
  | none=>rw[ec]at e2;cases e2
  | some o =>
   rw[ec]at e2
   cases o with
   | none=>cases e2
   | some j =>
    have e2':(σ[j]?).join=some v:=Option.some.inj e2
    obtain⟨c1,c2,c3,c4⟩:=(S.caps s3.heap.objs.size).get e1 ec
    have ej:σ[j]?=some (some v):=by
     cases ej:σ[j]? with
     | none=>rw[ej]at e2';cases e2'
     | some z=>rw[ej]at e2';cases z with
      | none=>cases e2'
      | some z=>cases e2';rfl
    obtain⟨m,hn,hl⟩:=I.loc
    obtain⟨u,r,l⟩:=hl j x v c1 ej (.inr (.inl c2))
    refine⟨u,r,?_⟩
    rcases l with⟨k,_⟩ | ⟨_,c,hc',hcell'⟩
    ·have:X.env.scope.names.lookup x=some .local:=k
     rw[c2]at this;cases this
    ·exact .inr ⟨.inl c3,c,c4.trans hc',let⟨o,ho,hd⟩:=hcell';⟨o,hk _ _ ho,hd⟩⟩
 ·rcases U0 e with a | ⟨_,a⟩
  ·exact⟨_,(new a).1⟩
  ·obtain⟨v,o,ho,hd⟩:=old x c a
   exact⟨v,o,hk _ _ ho,hd⟩
 ·rcases U0 e with a | ⟨_,a⟩
  ·exact I.hok.fresh (Nat.le_of_succ_le (new a).2)
  ·exact I.freeC x c (S.cin.get a)
 ·have hp':p∈X.pn++pins:=by simpa [cxD] using hp
  obtain⟨e,n,ne,nf,d⟩:=I.pin p hp'
  refine⟨hk _ _ e,n,lt3 _ _ e,fun hf=>?_,d⟩
  rcases List.mem_cons.mp (I.stkSub p.1 hf)with z | z
  ·exact ne z
  ·exact nf z
 ·unfold Ih
  rw[List.length_map]
  exact(S.caps 0).len
theorem Inv.unblockD{σ':St}{H':Hp}{s':Shared}{h':Heap}(I:Inv X pins σ H3 s3)(hex:∀b∈ex,p8 X pins H3 b)(J:Inv (cxD X scope cl N' pins ex s3 H3) [] σ' H' s')(hb:Heap.SameBut s3.heap.objs.size s'.heap h') :
  Inv X pins σ H' { s' with heap:=h' }:=by
 have hfr:H' s3.heap.objs.size=none:=J.free
 refine I.call' (ch:=ex) J.os ⟨fun b o e n h1 h2=>?_,fun b o e n h1 h2=>?_,fun b o e n h2=>?_,fun b o e h2=>?_,J.base.tups,J.base.frzs,J.base.tbls⟩ (fun b ob e=>?_) J.bare fun b hbx=>?_
 ·exact(hb.2 b (Nat.ne_of_lt (Heap.lt_size e))).trans (J.base.keep b o e n h1 h2)
 ·obtain⟨sl,q⟩:=J.base.slot b o e n h1 h2
  exact⟨sl,(hb.2 b (Nat.ne_of_lt (Heap.lt_size e))).trans q⟩
 ·exact J.base.free b o e n h2
 ·obtain⟨o',q⟩:=J.base.there b o e h2
  exact⟨o',(hb.2 b (Nat.ne_of_lt (Heap.lt_size e))).trans q⟩
 ·refine(J.hok b ob e).stay (fun c w' hc q=>(hb.2 c ?_).trans q) (fun _ q=>q) fun _ _ q=>q
  rintro rfl
  rcases hc with z | z
  ·rw[<-z,hfr]at e;cases e
  ·rw[hfr]at z;cases z
 ·obtain⟨_,f1,_,f3,f4,f5⟩:=hex b hbx
  exact⟨f3,f1,f4,f5⟩
end
theorem Jx{M:Model}{A:Around}{E:Value->Shared->Prop}{s:Shared}{scope:Scope}{globals:Addr}{cl:List (Str×Addr)}{qual:Str}{env:Env}{Q:Env->Shared->Prop}
  (hQ:∀b,Q (newEnv scope s.heap.objs.size globals (own scope cl s.heap.objs.size) qual none .none (some env) b) { s with heap:=pushCells (s.heap.push { cls:=.type "dict",data:=.dict #[] }) scope.names }) :
  wpAny M A (newFunctionEnv scope globals cl [] qual none .none (some env)) Q E s:=by
 simp only[newFunctionEnv,Option.isSome_some,if_true]
 refine wpAny_bind (wpAny_alloc ?_)
 refine wpAny_bind (wpAny_layCells _ (fun name kind cells=>by cases hkc:kind == NameKind.cell<;>simp[hkc]) _ _ _ _ ?_)
 rw[show({ s with heap:=s.heap.push { cls:=.type "dict",data:=.dict #[] } }:Shared).heap.objs.size=s.heap.objs.size+1 from Heap.size_push ..]
 rw[List.forIn_nil]
 exact wpAny_bind (wpAny_pure (wpAny_pure (hQ 0)))
section
variable{X:Cx}{tg iter:Expr}{ifs:List Expr}{g:TG}{tc:TT}{em:TEm}{scope:Scope}{cl:List (Str×Addr)}{N':List Str}{cap:List (Option Nat)}{pos:Pos}{wi:TI}
theorem Of{e:Expr}{gs:List Comprehension}{newAcc:Sem Value}{p2:Pos}(hcl:clausesOf e =⟨tg,iter,ifs,0⟩::gs)(o:Addr->HO)(hs:∀x,foldedSetIterable iter X.env x=pure x)(S:DScope X scope cl N' cap)(hc:X.calm=true)(hi:PI X tg iter wi)
  {lp:Addr->It->St->Hp->(St->Hp->Prop)->Prop}
  (hnew:∀(pins:List (Addr×Obj)) (s:Shared) (σ:St) (H:Hp) (Q:Value->Shared->Prop) (E:Value->Shared->Prop),Inv X pins σ H s->(∀s',Inv X pins σ (upd H s.heap.objs.size (o s.heap.objs.size)) s'->(∀b ob,s.heap.get? b=some ob->s'.heap.get? b=some ob)->Q (.ref s.heap.objs.size) s')->wpAny (model X.prog X.w) X.A newAcc Q E s)
  (hlp:∀(pins:List (Addr×Obj)) (ex:List Addr) (s3:Shared) (H3:Hp) (D it:Addr) (fp:List Addr) (tn:Nat->Heap->Prop) (J:It) (σ:St) (s:Shared) (H:Hp) (Q:St->Hp->Prop) (R:Result->Shared->Prop),
   Turn X.prog X.w X.K tg J fp it tn->Inv (cxD X scope cl N' pins ex s3 H3) [] σ H s->tn 0 s.heap->(∀b∈fp,p8 (cxD X scope cl N' pins ex s3 H3) [] H b)->lp D J σ H Q ->
   (∀s' σ' H',Inv (cxD X scope cl N' pins ex s3 H3) [] σ' H' s'->Q σ' H'->R (.ok .next) s') ->
   codeAny (model X.prog X.w) X.A (.compLoop e 0 (.ref it) (.ref D) (compEnvC scope (own scope cl s3.heap.objs.size) s3.heap.objs.size X.env)) R s)
  (hun:∀it D env,X.A.under (.compStart e 0 (.ref it) (.ref D) env)=X.A) (hden:∀it D env,(model X.prog X.w).den (.compStart e 0 (.ref it) (.ref D) env) =(compStart e 0 (.ref it) (.ref D) env).onRaise (fun x=>do noteFrame x env;standAt theWindowsPlace))
  (hev:∀E Q s,wpAny (model X.prog X.w) X.A (comprehension e scope X.env p2 newAcc false (eval iter X.env)) Q E s->wpAny (model X.prog X.w) X.A (eval e X.env) Q E s) :
  PE X e (t9 wi o cap lp):=by
 intro pins s σ H Q I h
 refine hev _ _ _ (wpAny_comprehension_free (use:=none) hcl hs S.clos S.kind S.loc (thn (hi pins s σ H _ I h) fun v s1 h1=>thn h1 fun itv s2 h2=>?_))
 obtain⟨it,fp,tn,J,H2,eit,I2,T,st2,f2,R2⟩:=h2
 subst eit
 refine hnew pins s2 σ H2 _ _ I2 fun s3 I3 k3=>?_
 have hD:H2 s2.heap.objs.size=none:=I2.hok.fresh (Nat.le_refl _)
 have fok:∀b∈fp,p8 X pins (upd H2 s2.heap.objs.size (o s2.heap.objs.size)) b/\∃ob,s3.heap.get? b=some ob:=fun b hb=>by
  obtain⟨ob,e,_⟩:=T.obj _ _ st2 b hb
  obtain⟨f0,fr⟩:=f2 b hb
  exact⟨⟨by rw[B6 (Nat.ne_of_lt (Heap.lt_size e))];exact f0,fr⟩,ob,k3 b ob e⟩
 refine Jx fun bb=>?_
 have hk:∀b ob,s3.heap.get? b=some ob->(pushCells (s3.heap.push { cls:=.type "dict",data:=.dict #[] }) scope.names).get? b=some ob:=fun b ob e=>pushCells_keeps _ _ b ob (Heap.get?_push_of_some _ e)
 have hns:(pushCells (s3.heap.push { cls:=.type "dict",data:=.dict #[] }) scope.names).Ns s3.heap.objs.size (fun _=>none):=(Heap.Ns.new s3.heap (.type "dict")).keeps (pushCells_keeps _ _)
 have ok:=cellsFrom_ok scope.names (s3.heap.push { cls:=.type "dict",data:=.dict #[] }) (s3.heap.objs.size+1) [] ⟨fun _ _ hm=>(nomatch hm),List.Pairwise.nil⟩ (by rw[Heap.size_push];exact Nat.le_refl _)
 rw[Heap.size_push]at ok
 generalize pushCells (s3.heap.push { cls:=.type "dict",data:=.dict #[] }) scope.names=h1 at hk hns ok⊢
 have I4:Inv (cxD X scope cl N' pins fp s3 (upd H2 s2.heap.objs.size (o s2.heap.objs.size))) [] (Ih cap σ) (upd H2 s2.heap.objs.size (o s2.heap.objs.size)) { s3 with heap:=h1,toks:=s3.toks } :=
  I3.blockD S hc fok hns hk ok
 have st4:tn 0 h1:=T.keep 0 _ _ st2 fun b hb ob e=>hk b ob (k3 b ob e)
 refine S0 (X:=cxD X scope cl N' pins fp s3 (upd H2 s2.heap.objs.size (o s2.heap.objs.size))) (gs:=⟨tg,iter,ifs,0⟩::gs) (e:=e) (d:=0) (tg:=tg) (iter:=iter) (ifs:=ifs) (hun _ _ _) (hden _ _ _) hcl rfl T st4 ?_
 refine hlp pins fp s3 _ s2.heap.objs.size it fp tn J (Ih cap σ) _ _ _ _ T I4 st4 (fun b hb=>?_) (R2 _ hD) fun s' σ' H' I' q'=>?_
 ·obtain⟨⟨f0,f1,f2',f3,f4,f5⟩,ob,eo⟩:=fok b hb
  refine⟨f0,Nat.ne_of_lt (Heap.lt_size eo),fun hf=>?_,.inl hb,fun x c e=>?_,fun p hp=>f5 p (by simpa [cxD] using hp)⟩
  ·rcases List.mem_cons.mp (I3.stkSub b hf)with z | z
   ·exact f1 z
   ·exact f2' z
  ·rcases U0 e with a | ⟨_,a⟩
   ·exact Nat.ne_of_gt (Nat.lt_of_lt_of_le (Heap.lt_size eo) (Nat.le_of_succ_le (ok.empty _ _ (PySem.mem_of_lookup a)).2))
   ·exact f4 x c (S.cin.get a)
 ·obtain⟨m,hn,_⟩:=I'.loc
  exact⟨m,hn,fun h' hb=>⟨.ref _,H',I3.unblockD (fun b hb=>(fok b hb).1) I' hb,rfl,q'⟩⟩
theorem Xv{elt:Expr}{te:TE}(S:DScope X scope cl N' cap)(hc:X.calm=true)(hi:PI X tg iter wi)
  (hb:∀(pins:List (Addr×Obj)) (ex:List Addr) (s3:Shared) (H3:Hp),PG (cxD X scope cl N' pins ex s3 H3) tg g/\PTs (cxD X scope cl N' pins ex s3 H3) ifs tc/\PE (cxD X scope cl N' pins ex s3 H3) elt te)
  (hs:∀x,foldedSetIterable iter X.env x=pure x:=by intro _;rfl) :
  PE X (.ListComp elt [⟨tg,iter,ifs,0⟩] scope pos) (t9 wi (fun _=>.lst []) cap fun D J σ H Q=>Aq g tc (Df D te) J σ H Q):=by
 refine Of (newAcc:=newList []) (p2:=firstIterPos [⟨tg,iter,ifs,0⟩] pos) rfl (fun _=>.lst []) hs S hc hi (fun pins s σ H Q E I h=>?_) (fun pins ex s3 H3 D it fp tn J σ s H Q R T I st hf h hR=>?_) (fun _ _ _=>rfl) (fun _ _ _=>rfl) (fun E Q s h=>h)
 ·refine wpAny_newList ?_
  exact h _ (I.lnew (t':=s.toks) (its:=[]) .nil (Nat.zero_le _)) fun b ob e=>Heap.get?_push_of_some _ e
 ·obtain⟨b1,b2,b3⟩:=hb pins ex s3 H3
  exact O9 (X:=cxD X scope cl N' pins ex s3 H3) rfl rfl hc rfl (Y3 elt tg iter ifs scope pos _ _ _) b1 b2 (Bw rfl b3) T I st hf h hR
theorem Zo(caps:∀n,Caps X scope (own scope cl n) N' cap)(cin:ClIn X cl)(clos:closureFor scope X.env=pure cl:=by rfl)(kind:scope.kind = .function:=by rfl)
  (loc:∀y∈scope.names,y.2 = .local->scope.names.lookup y.1=some .local:=by decide +kernel) (has:∀n,((relabel scope X.env).names.all fun y=>!(y.2 == .cell||y.2 == .free)||((own scope cl n).lookup y.1).isSome)=true:=by intro _;rfl):DScope X scope cl N' cap:=⟨kind,loc,clos,cin,has,caps⟩
theorem pgD{pins:List (Addr×Obj)}{ex:List Addr}{s3:Shared}{H3:Hp}{x:Str}{pos:Pos}(i:Nat)(hN:N'.Nodup:=by decide +kernel)(hi:N'[i]?=some x:=by rfl)(hx:Loc (cxD X scope cl N' pins ex s3 H3).env.scope x:=by first | exact Or.inl rfl | exact Or.inr rfl)
  (hf:(cxD X scope cl N' pins ex s3 H3).fn x=true\/(cxD X scope cl N' pins ex s3 H3).env.scope.names.lookup x=some .local:=by first | exact Or.inr rfl | exact Or.inl rfl):PG (cxD X scope cl N' pins ex s3 H3) (.Name x pos) (K7 i):=E1 (X:=cxD X scope cl N' pins ex s3 H3) hN hi hx hf
end
noncomputable def Qk:List Str->List Value->Bool
 | [],[]=>true
 | x::xs,.str y _::us=>x == y&&Qk xs us
 | _,_=>false
theorem Lu:∀{xs:List Str} {us:List Value},Qk xs us=true->Vals (xs.map V.str) us
 | [],[],_=>.nil
 | x::xs,.str y t::us,h=>by
  obtain⟨h1,h2⟩:=(Bool.and_eq_true _ _).mp (show(x == y&&Qk xs us)=true from h)
  have e:x=y:=beq_iff_eq.mp h1
  exact .cons ⟨t,by rw[e]⟩ (Lu h2)
noncomputable def GTup(K:PySem.W.Frag)(a:Addr)(xs:List Str):Prop:=∃(o:Obj) (its:Array Value) (n:Nat),K.lookup a=some o/\o.cls = .type "tuple"/\o.data = .seq its n/\its.size<=sizeLine/\Vals (xs.map V.str) its.toList
theorem GTup.sq{K:PySem.W.Frag}{H:Hp}{a:Addr}{xs:List Str}(h:GTup K a xs):SqT K H a (xs.map V.str):=.inr h
theorem Jo:∀{xs:List V} {us:List Value},Vals xs us->us.length=xs.length
 | _,_,.nil=>rfl
 | _,_,.cons _ t=>by rw[List.length_cons,List.length_cons,Jo t]
theorem gtup_mk{K:PySem.W.Frag}{a:Addr}{xs:List Str}{o:Obj}(l:K.lookup a=some o)(e:∃its n d osl,o =⟨.type "tuple",d,.seq its n,osl⟩/\(decide (xs.length<=100)&&Qk xs its.toList)=true):GTup K a xs:=by
 obtain⟨its,n,d,osl,rfl,h⟩:=e
 obtain⟨h1,h2⟩:=(Bool.and_eq_true _ _).mp h
 have v:=Lu h2
 refine⟨_,its,n,l,rfl,rfl,?_,v⟩
 have e1:=Jo v
 rw[List.length_map,Array.length_toList]at e1
 have:=of_decide_eq_true h1
 rw[sizeLine_eq,e1]
 omega
section
variable{prog:Program}{w:World}{A:Around}{E:Value->Shared->Prop}{s:Shared}{it l:Addr}{i:Nat}{items:Array Value}{x:Value}{Q:Value->Shared->Prop}
theorem Au{z TI TO i1 i2 l1 l2:Addr}{k1 k2:Nat}{xs ys:Array Value}{x y a b:Value}(D:ZipApart z TI TO i1 i2 l1 l2)(hz:IsZip s.heap z TI TO .none)(hti:IsPair s.heap TI (.ref i1) (.ref i2))(hto:IsPair s.heap TO a b)
  (h1:s.heap.IsListIter i1 l1 k1) (h2:s.heap.IsTupleIter i2 l2 k2) (g1:s.heap.IsList l1 xs) (g2:s.heap.IsTuple l2 ys) (hx:xs[k1]?=some x) (hy:ys[k2]?=some y)
  (hQ:∀h',IsZip h' z TI TO (rawInt s.heap.objs.size)->IsPair h' TO x y->h'.IsListIter i1 l1 (k1+1)->h'.IsTupleIter i2 l2 (k2+1)->IsPair h' s.heap.objs.size x y->h'.objs.size=s.heap.objs.size+1->(∀c o,c≠z->c≠TO->c≠i1->c≠i2->s.heap.get? c=some o->h'.get? c=some o)->Q (.ref s.heap.objs.size) { s with heap:=h' }) :
  wpAny (model prog w) A (Builtin.«zip.__next__» ⟨[.ref z],[]⟩) (fun fin s'=>∃v,fin = .done (.ret v)/\Q v s') E s:=by
 obtain⟨h0,gg,dd,tt,oo⟩:=s
 refine wpAny_bind (wpAny_pure (wpAny_bind (wpAny_field hz rfl rfl (wpAny_bind (wpAny_field hz rfl rfl (wpAny_bind (wpAny_seqItems hti rfl ?_)))))))
 refine wpAny_ite_false rfl (wpAny_bind (wpAny_bind (wpAny_field hz rfl rfl (wpAny_pure (wpAny_ite_true rfl ?_)))))
 refine wpAny_bind (wpAny_rule (wpAny_bind (wpAny_field hz rfl rfl (wpAny_bind (wpAny_setField_rec hz (Nat.zero_lt_succ 4) fun h3 z3 s3=>?_)))))
 have a3:=h1.extBut s3.extBut D.i1z
 have b3:=h2.extBut s3.extBut D.i2z
 have c3:=g1.extBut s3.extBut D.l1z
 have d3:=g2.extBut s3.extBut D.l2z
 have e3:=(s3.2 TO D.TOz).trans hto
 refine wpAny_bind ?_
 rw[show(#[Value.ref i1,Value.ref i2].toList.zipIdx) = [(Value.ref i1,0),(Value.ref i2,1)]from rfl]
 refine Dc (u:=(none,())) (v:=(none,())) ?_
 refine wpAny_bind (wpAny_onRaise (wpAny_ite_false rfl (wpAny_bind (wpAny_nextOf_list_item a3 c3 hx fun h4 a4 s4=>wpAny_pure ?_))))
 have e4:=(s4.2 TO D.TOi1).trans e3
 refine wpAny_bind (wpAny_seqItems e4 rfl (wpAny_bind (wpAny_updateSeq_pair e4 fun h5 e5 s5=>wpAny_bind (wpAny_letGo (wpAny_pure ⟨rfl,?_⟩)))))
 have b5:=(b3.extBut s4.extBut D.i12.symm).extBut s5.extBut D.TOi2.symm
 have d5:=(d3.extBut s4.extBut D.l2i1).extBut s5.extBut D.l2TO
 refine wpAny_bind (wpAny_onRaise (wpAny_ite_false rfl (wpAny_bind (M7 b5 d5 hy fun h6 b6 s6=>wpAny_pure ?_))))
 have e6:=(s6.2 TO D.TOi2).trans e5
 refine wpAny_bind (wpAny_seqItems e6 rfl (wpAny_bind (wpAny_updateSeq_pair e6 fun h7 e7 s7=>wpAny_bind (wpAny_letGo (wpAny_pure ⟨rfl,?_⟩)))))
 have z7:=(s7.2 z D.TOz.symm).trans ((s6.2 z D.i2z.symm).trans ((s5.2 z D.TOz.symm).trans ((s4.2 z D.i1z.symm).trans z3)))
 have hs:h7.objs.size=h0.objs.size:=s7.1.trans (s6.1.trans (s5.1.trans (s4.1.trans s3.1)))
 have n0:∀{c:Addr} {o:Obj},h0.get? c=some o->c≠h7.objs.size:=fun e=>by rw[hs];exact Nat.ne_of_lt (Heap.lt_size e)
 refine wpAny_bind (wpAny_seqItems e7 rfl (wpAny_bind (wpAny_newTuple (wpAny_bind (wpAny_bind (wpAny_setField_rec (Heap.get?_push_of_some _ z7) (Nat.zero_lt_succ 4) fun h8 z8 s8=>wpAny_setField_rec z8 (Nat.succ_lt_succ (Nat.zero_lt_succ 3)) fun h9 z9 s9=>wpAny_pure ⟨_,rfl,?_⟩))) (by show 2<=sizeLine;decide))))
 have k9:∀{c:Addr} {o:Obj},c≠z->h7.get? c=some o->h9.get? c=some o:=fun nz e=>(s9.2 _ nz).trans ((s8.2 _ nz).trans (Heap.get?_push_of_some _ e))
 have sz9:h9.objs.size=h0.objs.size+1:=s9.1.trans (s8.1.trans ((Heap.size_push ..).trans (congrArg (· + 1) hs)))
 have tk:h9.get? h7.objs.size=some ⟨.type "tuple",none,.seq #[x,y],#[]⟩:=(s9.2 _ (n0 hz).symm).trans ((s8.2 _ (n0 hz).symm).trans (Heap.get?_push_size _ rfl))
 rw[hs]at z9 tk⊢
 refine hQ h9 z9 (k9 D.TOz e7) (a4.at fun o e=>?_) (b6.at fun o e=>?_) tk sz9 fun c o nz nt n1 n2 e=>k9 nz ?_
 ·exact k9 D.i1z ((s7.2 _ D.TOi1.symm).trans ((s6.2 _ D.i12).trans ((s5.2 _ D.TOi1.symm).trans e)))
 ·exact k9 D.i2z ((s7.2 _ D.TOi2.symm).trans e)
 ·exact(s7.2 _ nt).trans ((s6.2 _ n2).trans ((s5.2 _ nt).trans ((s4.2 _ n1).trans ((s3.2 _ nz).trans e))))
theorem Cs{z TI TO i1 i2 l1 l2:Addr}{k1:Nat}{xs:Array Value}{Q:PySem.Fin->Shared->Prop}(hA:A.handled=none)(D:ZipApart z TI TO i1 i2 l1 l2)(hz:IsZip s.heap z TI TO .none)(hti:IsPair s.heap TI (.ref i1) (.ref i2))
  (h1:s.heap.IsListIter i1 l1 k1) (g1:s.heap.IsList l1 xs) (hx:xs[k1]?=none)
  (hE:∀h' e,(∀c o,c≠z->c≠TO->c≠i1->c≠i2->s.heap.get? c=some o->h'.get? c=some o)->(∃o,h'.get? e=some o/\o.cls = .type "StopIteration")->E (.ref e) { s with heap:=h' }) :
  wpAny (model prog w) A (Builtin.«zip.__next__» ⟨[.ref z],[]⟩) Q E s:=by
 obtain⟨h0,gg,dd,tt,oo⟩:=s
 refine wpAny_bind (wpAny_pure (wpAny_bind (wpAny_field hz rfl rfl (wpAny_bind (wpAny_field hz rfl rfl (wpAny_bind (wpAny_seqItems hti rfl ?_)))))))
 refine wpAny_ite_false rfl (wpAny_bind (wpAny_bind (wpAny_field hz rfl rfl (wpAny_pure (wpAny_ite_true rfl ?_)))))
 refine wpAny_bind (wpAny_rule (wpAny_bind (wpAny_field hz rfl rfl (wpAny_bind (wpAny_setField_rec hz (Nat.zero_lt_succ 4) fun h3 z3 s3=>?_)))))
 refine wpAny_bind ?_
 rw[show(#[Value.ref i1,Value.ref i2].toList.zipIdx) = [(Value.ref i1,0),(Value.ref i2,1)]from rfl,List.forIn_cons]
 refine wpAny_bind (wpAny_bind (wpAny_onRaise (wpAny_ite_false rfl (wpAny_bind (wpAny_nextOf_list_end hA (h1.extBut s3.extBut D.i1z) (g1.extBut s3.extBut D.l1z) hx fun h4 e k4 ho=>?_)))))
 refine wpAny_setField_rec (k4 z _ D.i1z.symm z3) (Nat.zero_lt_succ 4) fun h5 z5 s5=>hE h5 e (fun c o nz _ n1 _ e=>(s5.2 _ nz).trans (k4 c o n1 ((s3.2 _ nz).trans e))) ?_
 obtain⟨o,ho,hc⟩:=ho
 have ne:e≠z:=fun q=>by
  subst q
  rw[k4 e _ D.i1z.symm z3]at ho
  cases ho
  exact absurd (show Value.type "zip" = .type "StopIteration" from hc) (by decide)
 exact⟨o,(s5.2 _ ne).trans ho,hc⟩
theorem Ua(hA:A.handled=none)(z TI TO i1 i2 l1 l2:Addr)(D:ZipApart z TI TO i1 i2 l1 l2)(xs ys:Array Value)(hl:xs.size<=ys.size) :
  WalksT prog w A z [z,TI,TO,i1,i2,l1,l2] [z,TO,i1,i2] xs.size (fun i vals=>∃x y,xs[i]?=some x/\ys[i]?=some y/\vals = #[x,y])
   (fun i h=>IsZip h z TI TO .none/\IsPair h TI (.ref i1) (.ref i2)/\(∃a b,IsPair h TO a b)/\h.IsListIter i1 l1 i/\h.IsTupleIter i2 l2 i/\h.IsList l1 xs/\h.IsTuple l2 ys)
   (fun i T h=>IsZip h z TI TO (rawInt T)/\IsPair h TI (.ref i1) (.ref i2)/\(∃a b,IsPair h TO a b)/\h.IsListIter i1 l1 (i+1)/\h.IsTupleIter i2 l2 (i+1)/\h.IsList l1 xs/\h.IsTuple l2 ys/\T≠z/\T≠TO/\T≠i1/\T≠i2) where
 sub:=by simp
 frame:=fun i h h' ⟨h1,h2,⟨a,b,h3⟩,h4,h5,h6,h7⟩ k=>⟨k z (by simp) _ h1,k TI (by simp) _ h2,⟨a,b,k TO (by simp) _ h3⟩,h4.at (k i1 (by simp)),h5.at (k i2 (by simp)),h6.at (k l1 (by simp)),h7.at (k l2 (by simp))⟩
 item:=fun i s Q E hi ⟨h1,h2,⟨a,b,h3⟩,h4,h5,h6,h7⟩ hQ=>by
  have hx:xs[i]?=some xs[i]:=Array.getElem?_eq_getElem hi
  have hy:ys[i]?=some (ys[i]'(Nat.lt_of_lt_of_le hi hl)):=Array.getElem?_eq_getElem _
  refine wpAny_bind (wpAny_attempt (wpAny_callSpecial?_slot (i6 h1) F.slot_zip_next (wpAny_call_entry F.slot_zip_next (i6 h1) F.entry_zip_next (Au D h1 h2 h3 h4 h5 h6 h7 hx hy fun h' z' o' a' b' t' sz k=>wpAny_pure ?_) (F.args_zip_next_1 _))))
  refine hQ _ _ h' s.toks ⟨_,_,hx,hy,rfl⟩ (Nat.le_refl _) ⟨_,t',rfl,_,rfl⟩ ⟨z',k TI _ D.TIz D.TITO D.TIi1 D.TIi2 h2,⟨_,_,o'⟩,a',b',h6.at fun o e=>k l1 o D.l1z D.l1TO D.l1i1 D.l1i2 e,h7.at fun o e=>k l2 o D.l2z D.l2TO D.l2i1 D.l2i2 e,?_,?_,?_,?_⟩ fun b o hb e=>?_
  ·exact(Nat.ne_of_lt (Heap.lt_size h1)).symm
  ·exact(Nat.ne_of_lt (Heap.lt_size h3)).symm
  ·obtain⟨o,e,_⟩:=h4
   exact(Nat.ne_of_lt (Heap.lt_size e)).symm
  ·obtain⟨o,e,_⟩:=h5
   exact(Nat.ne_of_lt (Heap.lt_size e)).symm
  ·simp only[List.mem_cons,List.not_mem_nil,or_false,not_or]at hb
   exact k b o hb.1 hb.2.1 hb.2.2.1 hb.2.2.2 e
 go:=fun elts k pos i T s Q E ⟨h1,h2,⟨a,b,h3⟩,h4,h5,h6,h7,_⟩ hQ=>wpAny_letOwnedTupleGo_zip h1 fun h' z' k'=>hQ h' ⟨z',(k'.2 _ D.TIz).trans h2,⟨a,b,(k'.2 _ D.TOz).trans h3⟩,h4.extBut k'.extBut D.i1z,h5.extBut k'.extBut D.i2z,h6.extBut k'.extBut D.l1z,h7.extBut k'.extBut D.l2z⟩ fun b o hb e=>(k'.2 b fun q=>hb (by rw[q];exact List.mem_cons_self ..)).trans e
 apart:=fun i T h ⟨_,_,_,_,_,_,_,n1,n2,n3,n4⟩ hm=>by
  simp only[List.mem_cons,List.not_mem_nil,or_false]at hm
  rcases hm with e | e | e | e
  ·exact n1 e
  ·exact n2 e
  ·exact n3 e
  ·exact n4 e
 done:=fun s Q E ⟨h1,h2,⟨a,b,h3⟩,h4,h5,h6,h7⟩ hQ=>by
  have hx:xs[xs.size]?=none:=Array.getElem?_eq_none (Nat.le_refl _)
  refine wpAny_bind (wpAny_attempt (wpAny_callSpecial?_slot (i6 h1) F.slot_zip_next (wpAny_call_entry F.slot_zip_next (i6 h1) F.entry_zip_next (Cs hA D h1 h2 h4 h6 hx fun h' e k ho=>?_) (F.args_zip_next_1 _))))
  obtain⟨o,ho,hc⟩:=ho
  refine wpAny_bind (wpAny_isInstance ⟨o,ho,hc⟩ isSubtype_stop (wpAny_pure (hQ h' s.toks fun b o hb e=>?_)))
  simp only[List.mem_cons,List.not_mem_nil,or_false,not_or]at hb
  exact k b o hb.1 hb.2.1 hb.2.2.1 hb.2.2.2 e
 self:=fun i s Q E ⟨h1,_⟩ q=>wpAny_pyIter_zip h1 q
end
section
variable{prog:Program}{w:World}{A:Around}{E:Value->Shared->Prop}{s:Shared}
theorem Nu{l1 l2:Addr}{xs ys:Array Value}{Q:Value->Shared->Prop}(g1:s.heap.IsList l1 xs)(g2:s.heap.IsTuple l2 ys)
  (hQ:∀h',IsZip h' (s.heap.objs.size+4) (s.heap.objs.size+2) (s.heap.objs.size+3) .none->IsPair h' (s.heap.objs.size+2) (.ref s.heap.objs.size) (.ref (s.heap.objs.size+1))->IsPair h' (s.heap.objs.size+3) .none .none ->
   h'.IsListIter s.heap.objs.size l1 0->h'.IsTupleIter (s.heap.objs.size+1) l2 0->(∀c o,s.heap.get? c=some o->h'.get? c=some o)->Q (.ref (s.heap.objs.size+4)) { s with heap:=h' }) :
  wpAny (model prog w) A (call (.type "zip") [.ref l1,.ref l2]) Q E s:=by
 refine callType_new (S:=fun A R s'=>s'=s/\∀h',IsZip h' (s.heap.objs.size+4) (s.heap.objs.size+2) (s.heap.objs.size+3) .none->IsPair h' (s.heap.objs.size+2) (.ref s.heap.objs.size) (.ref (s.heap.objs.size+1))->IsPair h' (s.heap.objs.size+3) .none .none ->
   h'.IsListIter s.heap.objs.size l1 0->h'.IsTupleIter (s.heap.objs.size+1) l2 0->(∀c o,s.heap.get? c=some o->h'.get? c=some o)->R (.ok (.ret (.ref (s.heap.objs.size+4)))) { s with heap:=h' }) F.called_zip rfl (F.typeCall_zip_2 _ _) (F.newCall_zip_2 _ _) (fun _=>F.args_object_init_3 _ _ _) F.entry_zip_new (.of_wp fun prog w A R s' hR=>?_) ⟨rfl,fun h' z1 z2 z3 z4 z5 k=>⟨⟨_,z1,rfl⟩,hQ h' z1 z2 z3 z4 z5 k⟩⟩
 obtain⟨rfl,hR⟩:=hR
 obtain⟨h0,gg,dd,tt,oo⟩:=s'
 refine wpAny_bind (wpAny_bind (wpAny_pure (wpAny_ite_false rfl (wpAny_bind (wpAny_of_eq sub_zip (wpAny_ite_false rfl (wpAny_pure ?_)))))))
 let h1:=h0.push { cls:=.type "list_iterator",data:=.fields #[.ref l1,.int 0 0] }
 let h2:=h1.push { cls:=.type "tuple_iterator",data:=.fields #[.ref l2,.int 0 0] }
 let h3:=h2.push { cls:=.type "tuple",data:=.seq #[.ref h0.objs.size,.ref h1.objs.size] }
 let h4:=h3.push { cls:=.type "tuple",data:=.seq #[.none,.none] }
 have e1:h1.objs.size=h0.objs.size+1:=Heap.size_push ..
 have e2:h2.objs.size=h0.objs.size+2:=(Heap.size_push ..).trans (congrArg (· + 1) e1)
 have e3:h3.objs.size=h0.objs.size+3:=(Heap.size_push ..).trans (congrArg (· + 1) e2)
 have e4:h4.objs.size=h0.objs.size+4:=(Heap.size_push ..).trans (congrArg (· + 1) e3)
 have g2':h1.IsTuple l2 ys:=g2.at fun o e=>Heap.get?_push_of_some _ e
 have p0:h1.get? h0.objs.size=some { cls:=.type "list_iterator",data:=.fields #[.ref l1,.int 0 0] }:=Heap.get?_push_size _ rfl
 have p1:h2.get? h1.objs.size=some { cls:=.type "tuple_iterator",data:=.fields #[.ref l2,.int 0 0] }:=Heap.get?_push_size _ rfl
 have p2:h3.get? h2.objs.size=some { cls:=.type "tuple",data:=.seq #[.ref h0.objs.size,.ref h1.objs.size] }:=Heap.get?_push_size _ rfl
 have p3:h4.get? h3.objs.size=some { cls:=.type "tuple",data:=.seq #[.none,.none] }:=Heap.get?_push_size _ rfl
 have u:∀{h:Heap} {o:Obj} {c:Addr} {q:Obj},h.get? c=some q->(h.push o).get? c=some q:=fun e=>Heap.get?_push_of_some _ e
 refine wpAny_ite_false rfl (wpAny_bind (wpAny_bind (Dc (u:=#[.ref h0.objs.size]) (v:=#[.ref h0.objs.size,.ref h1.objs.size]) (wpAny_bind (wpAny_holding (wpAny_pyIter_list g1 (wpAny_pure ⟨rfl,wpAny_bind (wpAny_holding (wpAny_pyIter_tuple g2' (wpAny_pure ⟨rfl,wpAny_pure ?_⟩)))⟩)))))))
 refine wpAny_bind (wpAny_newTuple (wpAny_bind (wpAny_newTuple (wpAny_bind (i7 (wpAny_pure ⟨_,rfl,?_⟩) ?_)) (by show 2<=sizeLine;decide))) (by show 2<=sizeLine;decide))
 ·have hz:=Heap.get?_push_size h4 (o:={ cls:=.type "zip",data:=.fields #[.none,.bool false,.bool false,.ref h2.objs.size,.ref h3.objs.size] }) rfl
  have q:=hR (h4.push { cls:=.type "zip",data:=.fields #[.none,.bool false,.bool false,.ref h2.objs.size,.ref h3.objs.size] })
  rw[show(Shared.mk h0 gg dd tt oo).heap.objs.size=h0.objs.size from rfl,<-e1,<-e2,<-e3,<-e4]at q
  exact q hz (u (u p2)) (u p3) ⟨_,u (u (u (u p0))),rfl,rfl⟩ ⟨_,u (u (u p1)),rfl,rfl⟩ fun c o e=>u (u (u (u (u e))))
 ·show 5<=sizeLine+2
  decide
end
noncomputable def Uf(sq sr:Hp->Addr->List V->Prop)(a b:Addr):It :=
  ⟨fun i H=>∃xs ys x y,sq H a xs/\sr H b ys/\xs.length<=ys.length/\xs[i]?=some x/\ys[i]?=some y,fun i H v H'=>∃T x y,v = .ref T/\H T=none/\H'=upd H T (.tup [x,y])/\(∀xs,sq H a xs->xs[i]?=some x)/\∀ys,sr H b ys->ys[i]?=some y,
   fun i H=>∃xs ys,sq H a xs/\sr H b ys/\xs.length<=ys.length/\xs.length=i⟩
noncomputable def Nt(isIt isJt:Heap->Addr->Addr->Nat->Prop)(z TI TO i1 i2 a b:Addr)(i:Nat)(h:Heap):Prop:=IsZip h z TI TO .none/\IsPair h TI (.ref i1) (.ref i2)/\(∃u v,IsPair h TO u v)/\isIt h i1 a i/\isJt h i2 b i
section
variable{P:Program}{w:World}{K:PySem.W.Frag}{elts:List Expr}{kk:Nat}{tp:Pos}{isIt isJt:Heap->Addr->Addr->Nat->Prop}{isq isr:Heap->Addr->Array Value->Prop}{sq sr:Hp->Addr->List V->Prop}
theorem Ep(oI:∀h c l i,isIt h c l i->∃o,h.get? c=some o/\∀v,o.data≠ .cell v)(kI:∀h h' c l i,isIt h c l i->(∀o,h.get? c=some o->h'.get? c=some o)->isIt h' c l i)(oJ:∀h c l i,isJt h c l i->∃o,h.get? c=some o/\∀v,o.data≠ .cell v)(kJ:∀h h' c l i,isJt h c l i->(∀o,h.get? c=some o->h'.get? c=some o)->isJt h' c l i)
  (gI:∀(X:Cx) pins σ H s c xs,X.K=K->Inv X pins σ H s->sq H c xs->∃its,Vals xs its/\isq s.heap c its.toArray) (uI:∀(X:Cx) pins σ H s c xs ys,X.K=K->Inv X pins σ H s->sq H c xs->sq H c ys->xs=ys) (gJ:∀(X:Cx) pins σ H s c xs,X.K=K->Inv X pins σ H s->sr H c xs->∃its,Vals xs its/\isr s.heap c its.toArray) (uJ:∀(X:Cx) pins σ H s c xs ys,X.K=K->Inv X pins σ H s->sr H c xs->sr H c ys->xs=ys)
  (z TI TO i1 i2 a b:Addr) (WI:∀(A:Around),A.handled=none->∀xs ys:Array Value,xs.size<=ys.size->WalksT P w A z [z,TI,TO,i1,i2,a,b] [z,TO,i1,i2] xs.size (fun i vals=>∃x y,xs[i]?=some x/\ys[i]?=some y/\vals = #[x,y])
   (fun i h=>IsZip h z TI TO .none/\IsPair h TI (.ref i1) (.ref i2)/\(∃a b,IsPair h TO a b)/\isIt h i1 a i/\isJt h i2 b i/\isq h a xs/\isr h b ys)
   (fun i T h=>IsZip h z TI TO (rawInt T)/\IsPair h TI (.ref i1) (.ref i2)/\(∃a b,IsPair h TO a b)/\isIt h i1 a (i+1)/\isJt h i2 b (i+1)/\isq h a xs/\isr h b ys/\T≠z/\T≠TO/\T≠i1/\T≠i2)) :
  Turn P w K (.Tuple elts kk tp) (Uf sq sr a b) [z,TI,TO,i1,i2] z (Nt isIt isJt z TI TO i1 i2 a b) where
 mem:=List.mem_cons_self ..
 obj:=fun i h st c hc=>by
  obtain⟨h1,h2,⟨u,v,h3⟩,h4,h5⟩:=st
  simp only[List.mem_cons,List.not_mem_nil,or_false]at hc
  rcases hc with rfl | rfl | rfl | rfl | rfl
  ·exact⟨_,h1,fun v z=>by cases z⟩
  ·exact⟨_,h2,fun v z=>by cases z⟩
  ·exact⟨_,h3,fun v z=>by cases z⟩
  ·exact oI _ _ _ _ h4
  ·exact oJ _ _ _ _ h5
 keep:=fun i h h' st k=>by
  obtain⟨h1,h2,⟨u,v,h3⟩,h4,h5⟩:=st
  exact⟨k z (by simp) _ h1,k TI (by simp) _ h2,⟨u,v,k TO (by simp) _ h3⟩,kI _ _ _ _ _ h4 (k i1 (by simp)),kJ _ _ _ _ _ h5 (k i2 (by simp))⟩
 item:=by
  intro X hP hw hK hc i pins s σ H E I hf st hg
  subst hP hw
  obtain⟨xs,ys,x,y,hq,hr,hle,hx,hy⟩:=hg
  obtain⟨its,rv,p⟩:=gI _ _ _ _ _ _ _ hK I hq
  obtain⟨jts,rw_,p'⟩:=gJ _ _ _ _ _ _ _ hK I hr
  obtain⟨u,hu,ru⟩:=rv.get hx
  obtain⟨v,hv,rv'⟩:=rw_.get hy
  have hl:=rv.length
  have hl':=rw_.length
  have W:=WI X.A (I.ok.hd hc) its.toArray jts.toArray (by rw[List.size_toArray,List.size_toArray,<-hl,<-hl'];exact hle)
  have hi:i<its.toArray.size:=by rw[List.size_toArray];exact(List.getElem?_eq_some_iff.mp hu).1
  obtain⟨s1,s2,s3,s4,s5⟩:=id st
  refine W.item i s _ _ hi ⟨s1,s2,s3,s4,s5,p,p'⟩ fun T vals h' tk hvs hT ht hm k=>?_
  obtain⟨x',y',hx',hy',rfl⟩:=hvs
  have ex:x'=u:=Option.some.inj (hx'.symm.trans ((List.getElem?_toArray ..).trans hu))
  have ey:y'=v:=Option.some.inj (hy'.symm.trans ((List.getElem?_toArray ..).trans hv))
  subst ex ey
  refine⟨.ref T,rfl,W.go elts kk tp i T _ _ _ hm fun h2 st2 k2=>?_⟩
  have kk2:∀b o,b∉[z,TI,TO,i1,i2]->s.heap.get? b=some o->h2.get? b=some o:=fun c o hc' ec=>by
   have n4:c∉[z,TO,i1,i2]:=fun m=>hc' (by
    simp only[List.mem_cons,List.not_mem_nil,or_false]at m⊢
    exact m.imp_right .inr)
   exact k2 c o n4 (k c o n4 ec)
  have hT2:h2.IsTuple T #[x',y']:=ht.at fun o e=>k2 T o (W.apart i T h' hm) e
  have gone:∀c∈[z,TI,TO,i1,i2],∃ob,s.heap.get? c=some ob:=fun c hc'=>by
   obtain⟨u3,v3,h3⟩:=s3
   obtain⟨o4,h4,_⟩:=oI _ _ _ _ s4
   obtain⟨o5,h5,_⟩:=oJ _ _ _ _ s5
   simp only[List.mem_cons,List.not_mem_nil,or_false]at hc'
   rcases hc' with rfl | rfl | rfl | rfl | rfl
   ·exact⟨_,s1⟩
   ·exact⟨_,s2⟩
   ·exact⟨_,h3⟩
   ·exact⟨_,h4⟩
   ·exact⟨_,h5⟩
  refine⟨.ref T,upd H T (.tup [x,y]),I.turnLaid (fp:=[z,TI,TO,i1,i2]) kk2 hf gone hT ⟨?_,[x',y'],.cons ru (.cons rv' .nil),hT2⟩,rfl,⟨T,x,y,rfl,I.hok.fresh hT,rfl,fun zs hz=>by rw[uI _ _ _ _ _ _ _ _ hK I hz hq];exact hx,fun zs hz=>by rw[uJ _ _ _ _ _ _ _ _ hK I hz hr];exact hy⟩,⟨st2.1,st2.2.1,st2.2.2.1,st2.2.2.2.1,st2.2.2.2.2.1⟩,fun c hc'=>?_⟩
  ·show 2<=sizeLine
   decide
  ·obtain⟨ob,eb⟩:=gone c hc'
   rw[B6 (Nat.ne_of_lt (Nat.lt_of_lt_of_le (Heap.lt_size eb) hT))]
   exact(hf c hc').1
 done:=by
  intro X hP hw hK hc i pins s σ H E I hf st hg
  subst hP hw
  obtain⟨xs,ys,hq,hr,hle,hx⟩:=hg
  obtain⟨its,rv,p⟩:=gI _ _ _ _ _ _ _ hK I hq
  obtain⟨jts,rw_,p'⟩:=gJ _ _ _ _ _ _ _ hK I hr
  have hl:=rv.length
  have hl':=rw_.length
  have W:=WI X.A (I.ok.hd hc) its.toArray jts.toArray (by rw[List.size_toArray,List.size_toArray,<-hl,<-hl'];exact hle)
  have hi:i=its.toArray.size:=by rw[List.size_toArray,<-hl,hx]
  obtain⟨s1,s2,s3,s4,s5⟩:=id st
  rw[hi]at s4 s5
  refine W.done s _ _ ⟨s1,s2,s3,s4,s5,p,p'⟩ fun h' tk k=>⟨rfl,?_⟩
  have nf:∀b u,H b=some u->b∉[z,TI,TO,i1,i2]:=fun b u e hb=>by rw[(hf b hb).1]at e;cases e
  have k':∀c o,c∉[z,TI,TO,i1,i2]->s.heap.get? c=some o->h'.get? c=some o:=fun c o hc' ec=>k c o (fun m=>hc' (by
    simp only[List.mem_cons,List.not_mem_nil,or_false]at m⊢
    exact m.imp_right .inr)) ec
  refine I.step (h':=h') (H':=H) (t':=tk) (g':=s.gens) (d':=s.drawn) (ch:=[z,TI,TO,i1,i2]) (fun b hb=>let⟨_,f1,_,f3,f4,f5⟩:=hf b hb;⟨f3,f1,f4,f5⟩) (fun b ob _ _ hc e _=>k' b ob hc e) (fun b ob _ _ hc e _=>⟨ob.slots,k' b ob hc e⟩) (fun _ _ _ _ n=>n)
   (fun b ob hc e=>⟨ob,k' b ob hc e⟩) (fun _ _ e=>e) (fun _ _ _ e=>e) (fun b ps e=>⟨#[],by rw[e];simp⟩) (fun m hm=>?_) (fun b u eb=>?_) I.bare
  ·obtain⟨ob,es,ep,ho,r⟩:=hm
   exact⟨ob,es,ep,k' _ ob (fun hb=>(hf _ hb).2.1 rfl) ho,r⟩
  ·refine(I.hok b u eb).stay (fun c v hc q=>k' c v ?_ q) (fun _ q=>q) fun _ _ q=>q
   rcases hc with z | z
   ·rw[z];exact nf b u eb
   ·exact nf c _ z
 self:=fun A i s Q E st h=>wpAny_pyIter_zip st.1 h
theorem Kq(z TI TO i1 i2 a b:Addr)(D:ZipApart z TI TO i1 i2 a b):Turn P w K (.Tuple elts kk tp) (Uf (SqL K) (SqL K) a b) [z,TI,TO,i1,i2] z (Nt Heap.IsListIter Heap.IsListIter z TI TO i1 i2 a b) :=
 Ep (isq:=Heap.IsList) (isr:=Heap.IsList) (fun h c l i ⟨o,e,_,d⟩=>⟨o,e,fun v z=>by rw[d]at z;cases z⟩) (fun h h' c l i z k=>z.at k) (fun h c l i ⟨o,e,_,d⟩=>⟨o,e,fun v z=>by rw[d]at z;cases z⟩) (fun h h' c l i z k=>z.at k)
  (fun X pins σ H s c xs hK I hq=>by subst hK;obtain⟨its,rv,p,_⟩:=I.list hq;exact⟨its,rv,p.isList⟩) (fun X pins σ H s c xs ys hK I hq hr=>by subst hK;exact I.list_inj hq hr) (fun X pins σ H s c xs hK I hq=>by subst hK;obtain⟨its,rv,p,_⟩:=I.list hq;exact⟨its,rv,p.isList⟩) (fun X pins σ H s c xs ys hK I hq hr=>by subst hK;exact I.list_inj hq hr)
  z TI TO i1 i2 a b fun A hA xs ys hl=>by
   have W:=WalksT.zip2 (prog:=P) (w:=w) hA z TI TO i1 i2 a b D xs ys
   rwa [Nat.min_eq_left hl]at W
theorem Lh(z TI TO i1 i2 a b:Addr)(D:ZipApart z TI TO i1 i2 a b):Turn P w K (.Tuple elts kk tp) (Uf (SqL K) (SqT K) a b) [z,TI,TO,i1,i2] z (Nt Heap.IsListIter Heap.IsTupleIter z TI TO i1 i2 a b) :=
 Ep (isq:=Heap.IsList) (isr:=Heap.IsTuple) (fun h c l i ⟨o,e,_,d⟩=>⟨o,e,fun v z=>by rw[d]at z;cases z⟩) (fun h h' c l i z k=>z.at k) (fun h c l i ⟨o,e,_,d⟩=>⟨o,e,fun v z=>by rw[d]at z;cases z⟩) (fun h h' c l i z k=>z.at k)
  (fun X pins σ H s c xs hK I hq=>by subst hK;obtain⟨its,rv,p,_⟩:=I.list hq;exact⟨its,rv,p.isList⟩) (fun X pins σ H s c xs ys hK I hq hr=>by subst hK;exact I.list_inj hq hr) (fun X pins σ H s c xs hK I hq=>by subst hK;obtain⟨its,rv,p,_⟩:=I.tuple hq;exact⟨its,rv,p⟩) (fun X pins σ H s c xs ys hK I hq hr=>by subst hK;exact I.tuple_inj hq hr)
  z TI TO i1 i2 a b fun A hA xs ys hl=>Ua hA z TI TO i1 i2 a b D xs ys hl
end
section
variable{X:Cx}{elts:List Expr}{kk:Nat}{tp:Pos}
noncomputable def Yr(K:PySem.W.Frag)(R:It->Hp->Prop)(a b:Addr)(xs ys:List V)(H:Hp):Prop:=SqL K H a xs/\SqL K H b ys/\R (Uf (SqL K) (SqL K) a b) H\/SqL K H a xs/\SqT K H b ys/\R (Uf (SqL K) (SqT K) a b) H
noncomputable def Vl(K:PySem.W.Frag)(ta:TA):TI:=fun σ H R=>ta σ H fun vs H1=>∃a b xs ys,vs = [.ref a,.ref b]/\Yr K R a b xs ys H1
theorem Tb{a b:Expr}{ta:TA}{p pos:Pos}(hg:Gl X "zip")(hm:X.mg "zip" = none)(ha:PA X [a,b] ta)(hs:starEach [a,b] X.env =(false,eval a X.env)::starEach [b] X.env:=by rfl)(hpl:(backTo pos (starEach [b] X.env)).any (·.1)=false:=by rfl):PI X (.Tuple elts kk tp) (.Call (.Name "zip" p) [a,b] [] pos) (Vl X.K ta):=by
 intro pins s σ H R I h
 refine Call_ (g9 I hg hm Ms (PyProof.Rows.callWith_type1 (thn (ha pos pins s σ H _ I h) fun us s1 ⟨vs,H1,I1,r1,q1⟩=>?_) hs hpl))
 obtain⟨l,m,xs,ys,e,q⟩:=q1
 subst e
 obtain⟨u,v,rfl,ru,rv⟩:=r1.two
 cases ru
 cases rv
 have fpk:∀c∈[s1.heap.objs.size+4,s1.heap.objs.size+2,s1.heap.objs.size+3,s1.heap.objs.size,s1.heap.objs.size+1],p8 X pins H1 c:=fun c hc=>by
  have hc':s1.heap.objs.size<=c:=by
   simp only[List.mem_cons,List.not_mem_nil,or_false]at hc
   rcases hc with rfl | rfl | rfl | rfl | rfl
   ·exact Nat.le_add_right ..
   ·exact Nat.le_add_right ..
   ·exact Nat.le_add_right ..
   ·exact Nat.le_refl _
   ·exact Nat.le_add_right ..
  exact I1.fpOk hc' (I1.hok.fresh hc')
 rcases q with⟨hq,hr,q⟩ | ⟨hq,hr,q⟩
 ·obtain⟨its,rx,pl,hz⟩:=I1.list hq
  obtain⟨jts,ry,pm,hz'⟩:=I1.list hr
  have a1:l<s1.heap.objs.size:=by obtain⟨_,e,_⟩:=pl.isList;exact Heap.lt_size e
  have a2:m<s1.heap.objs.size:=by obtain⟨_,e,_⟩:=pm.isList;exact Heap.lt_size e
  refine call_zip_2 pl.isList pm.isList fun h' g1 g2 g3 g4 g5 hsz k=>wpAny_pyIter_zip g1 ?_
  exact⟨s1.heap.objs.size+4,_,_,_,H1,rfl,I1.kept (t':=s1.toks) k,Kq _ _ _ _ _ l m (zipApart_new a1 a2),⟨g1,g2,⟨_,_,g3⟩,g4,g5⟩,fpk,q⟩
 ·obtain⟨its,rx,pl,hz⟩:=I1.list hq
  obtain⟨jts,ry,pm,hz'⟩:=I1.tuple hr
  have a1:l<s1.heap.objs.size:=by obtain⟨_,e,_⟩:=pl.isList;exact Heap.lt_size e
  have a2:m<s1.heap.objs.size:=by obtain⟨_,e,_⟩:=id pm;exact Heap.lt_size e
  refine Nu pl.isList pm fun h' g1 g2 g3 g4 g5 k=>wpAny_pyIter_zip g1 ?_
  exact⟨s1.heap.objs.size+4,_,_,_,H1,rfl,I1.kept (t':=s1.toks) k,Lh _ _ _ _ _ l m (zipApart_new a1 a2),⟨g1,g2,⟨_,_,g3⟩,g4,g5⟩,fpk,q⟩
variable(K:PySem.W.Frag)
theorem zBu{a b:Expr}{ta:TA}{p pos:Pos}(hm:X.mg "zip" = none)(ha:PA X [a,b] ta)(hg:Gl X "zip":=by rfl)(hs:starEach [a,b] X.env =(false,eval a X.env)::starEach [b] X.env:=by rfl)(hpl:(backTo pos (starEach [b] X.env)).any (·.1)=false:=by rfl)(hK:X.K=K:=by rfl):PI X (.Tuple elts kk tp) (.Call (.Name "zip" p) [a,b] [] pos) (Vl K ta):=by subst hK;exact Tb hg hm ha hs hpl
end
end L2
namespace Sw
open PySem L2
noncomputable def top(i:Nat):Stmt:=PySem.Challenge.pw_strikeweave_k80_whole_sets_by_going_thro.main.body.getD i (.Pass ⟨0,0,0,0⟩)
noncomputable abbrev s_is_quiet:Stmt:=top 3
noncomputable abbrev s_strikes_back:Stmt:=top 4
noncomputable abbrev s_stands:Stmt:=top 5
noncomputable abbrev s_kept_by:Stmt:=top 6
noncomputable abbrev s_is_whole:Stmt:=top 7
noncomputable abbrev s_is_outright:Stmt:=top 8
noncomputable abbrev s_struck_by_any:Stmt:=top 9
noncomputable abbrev s_strikers_of_any:Stmt:=top 10
noncomputable abbrev s_words_by:Stmt:=top 11
noncomputable abbrev s_is_telling:Stmt:=top 12
noncomputable abbrev s_are_words:Stmt:=top 13
noncomputable abbrev s_agrees:Stmt:=top 14
noncomputable abbrev s_is_name:Stmt:=top 24
noncomputable abbrev s_check_names:Stmt:=top 25
noncomputable abbrev s_check_strikes:Stmt:=top 26
noncomputable abbrev s_is_strike:Stmt:=top 27
noncomputable abbrev s_law_mix:Stmt:=top 29
noncomputable abbrev s_law_left:Stmt:=top 30
noncomputable abbrev s_law_pick:Stmt:=top 31
noncomputable abbrev s_law_names:Stmt:=top 32
noncomputable abbrev s_law_size:Stmt:=top 33
noncomputable abbrev s_law_strikes:Stmt:=top 34
noncomputable abbrev s_law_masks:Stmt:=top 35
noncomputable abbrev s_law_set_of:Stmt:=top 36
noncomputable abbrev s_law_hit:Stmt:=top 37
noncomputable abbrev s_law_kept:Stmt:=top 38
noncomputable abbrev s_law_is_quiet:Stmt:=top 39
noncomputable abbrev s_law_some:Stmt:=top 40
noncomputable abbrev s_law_handed:Stmt:=top 41
noncomputable abbrev s_law_same:Stmt:=top 42
noncomputable abbrev s_law_says:Stmt:=top 43
noncomputable abbrev s_law_looked:Stmt:=top 44
noncomputable abbrev s_law_set_right:Stmt:=top 45
noncomputable abbrev s_law_words_right:Stmt:=top 46
noncomputable abbrev s_law:Stmt:=top 47
noncomputable abbrev s_Web___init__:Stmt:=Y2 (top 23) 0
noncomputable abbrev s_Web_all_names:Stmt:=Y2 (top 23) 1
noncomputable abbrev s_Web_all_strikes:Stmt:=Y2 (top 23) 2
noncomputable abbrev s_Web_strikers:Stmt:=Y2 (top 23) 3
noncomputable abbrev s_Web_struck:Stmt:=Y2 (top 23) 4
noncomputable abbrev s_Web_check_has:Stmt:=Y2 (top 23) 5
structure Tx(K:PySem.W.Frag)(mg:Str->Option Value) where
 is_quiet:Fn K mg "is_quiet" s_is_quiet ["web", "some"]
 strikes_back:Fn K mg "strikes_back" s_strikes_back ["web", "some"]
 stands:Fn K mg "stands" s_stands ["web", "some"]
 kept_by:Fn K mg "kept_by" s_kept_by ["web", "some"]
 is_whole:Fn K mg "is_whole" s_is_whole ["web", "some"]
 is_outright:Fn K mg "is_outright" s_is_outright ["web", "some"]
 struck_by_any:Fn K mg "struck_by_any" s_struck_by_any ["web", "some"]
 strikers_of_any:Fn K mg "strikers_of_any" s_strikers_of_any ["web", "some"]
 words_by:Fn K mg "words_by" s_words_by ["web", "some"]
 is_telling:Fn K mg "is_telling" s_is_telling ["web", "words"]
 are_words:Fn K mg "are_words" s_are_words ["web", "words"]
 agrees:Fn K mg "agrees" s_agrees ["web", "given", "name"]
 is_name:Fn K mg "is_name" s_is_name ["thing"]
 check_names:Fn K mg "check_names" s_check_names ["names"]
 check_strikes:Fn K mg "check_strikes" s_check_strikes ["names", "strikes"]
 is_strike:Fn K mg "is_strike" s_is_strike ["names", "thing"]
 law_mix:Fn K mg "_law_mix" s_law_mix ["_law_cell", "_law_k"]
 law_left:Fn K mg "_law_left" s_law_left ["_law_script", "_law_k"]
 law_pick:Fn K mg "_law_pick" s_law_pick ["_law_left_here", "_law_many"]
 law_names:Fn K mg "_law_names" s_law_names ["_law_left_here", "_law_many"]
 law_size:Fn K mg "_law_size" s_law_size ["_law_left_here"]
 law_strikes:Fn K mg "_law_strikes" s_law_strikes ["_law_left_here", "_law_names_here"]
 law_masks:Fn K mg "_law_masks" s_law_masks ["_law_names_here", "_law_strikes_here"]
 law_set_of:Fn K mg "_law_set_of" s_law_set_of ["_law_view", "_law_mask"]
 law_hit:Fn K mg "_law_hit" s_law_hit ["_law_view", "_law_mask"]
 law_kept:Fn K mg "_law_kept" s_law_kept ["_law_view", "_law_mask"]
 law_is_quiet:Fn K mg "_law_is_quiet" s_law_is_quiet ["_law_view", "_law_mask"]
 law_some:Fn K mg "_law_some" s_law_some ["_law_left_here", "_law_view"]
 law_handed:Fn K mg "_law_handed" s_law_handed ["_law_left_here", "_law_some_here"]
 law_same:Fn K mg "_law_same" s_law_same ["_law_found", "_law_due"]
 law_says:Fn K mg "_law_says" s_law_says ["_law_found", "_law_due"]
 law_looked:Fn K mg "_law_looked" s_law_looked ["_law_names_here", "_law_strikes_here", "_law_some_here"]
 law_set_right:Fn K mg "_law_set_right" s_law_set_right ["_law_left_here", "_law_web", "_law_names_here", "_law_strikes_here", "_law_some_here"]
 law_words_right:Fn K mg "_law_words_right" s_law_words_right ["_law_web", "_law_names_here", "_law_number"]
 CWeb:Addr
 clWeb:Cls K CWeb
 mgWeb:mg "Web" = some (.ref CWeb)
 nWeb_names:NoAttr K CWeb "names"
 nWeb_strikes:NoAttr K CWeb "strikes"
 nWeb_strikers_by_name:NoAttr K CWeb "strikers_by_name"
 nWeb_struck_by_name:NoAttr K CWeb "struck_by_name"
 fWeb___init__:Addr
 fdWeb___init__:FuncData
 FWeb___init__:Fun K "__init__" "Web.__init__" s_Web___init__ fWeb___init__ fdWeb___init__
 bWeb___init__:Binds K fdWeb___init__ ["self", "names", "strikes"] []
 mkWeb:Mk K CWeb fWeb___init__
 mWeb_all_names:Mt K CWeb "all_names" "Web.all_names" s_Web_all_names ["self"]
 mWeb_all_strikes:Mt K CWeb "all_strikes" "Web.all_strikes" s_Web_all_strikes ["self"]
 mWeb_strikers:Mt K CWeb "strikers" "Web.strikers" s_Web_strikers ["self", "name"]
 mWeb_struck:Mt K CWeb "struck" "Web.struck" s_Web_struck ["self", "name"]
 mWeb_check_has:Mt K CWeb "check_has" "Web.check_has" s_Web_check_has ["self", "name"]
 aWORDS:Addr
 gWORDS:mg "WORDS" = some (.ref aWORDS)
 kWORDS:GTup K aWORDS ["in", "out", "open"]
 gLETTERS:∃t,mg "LETTERS" = some (.str "abcdefghijklmnopqrstuvwxyz" t)
 gLONGEST_NAME:∃t,mg "LONGEST_NAME" = some (.int 8 t)
 b_len:mg "len" = none
 b_range:mg "range" = none
 b_enumerate:mg "enumerate" = none
 b_zip:mg "zip" = none
 b_min:mg "min" = none
 b_max:mg "max" = none
 b_abs:mg "abs" = none
 b_sorted:mg "sorted" = none
 b_int:mg "int" = none
 b_str:mg "str" = none
 b_bool:mg "bool" = none
 b_list:mg "list" = none
 b_tuple:mg "tuple" = none
 b_set:mg "set" = none
 b_isinstance:mg "isinstance" = none
 b_all:mg "all" = none
 b_ValueError:mg "ValueError" = none
end Sw
namespace L2
open PySem
theorem U2{J:It}{xs:List V}{a:Addr}{H0:Hp}(as:AsSeq J xs a H0){g:TG}{tb:TS}{D:Ends}{σ:St}{H:Hp}(Pv:Nat->St->Hp->Prop)(h0:Pv 0 σ H)(hk:∀i σ H,i<=xs.length->Pv i σ H->KeepAt a H0 H)
  (hs:∀i σ H x,xs[i]?=some x->Pv i σ H->∀D':Ends,(∀σ' H',Pv (i+1) σ' H'->D'.nx σ' H')->D'.rt=D.rt->g x σ H fun σ2 H2=>tb D' σ2 H2) (hd:∀σ H,Pv xs.length σ H->D.nx σ H) :
  ∃W:Nat->Nat->St->Hp->Prop,(∃m,W 0 m σ H)/\∀i m σ H,W i m σ H ->
   (J.stop i H/\D.nx σ H)\/(J.go i H/\∃N:St->Hp->Prop,(∀σ' H',N σ' H'->∃m',m' < m/\W (i+1) m' σ' H')/\∀x H',J.yld i H x H'->g x σ H' fun σ2 H2=>tb { D with nx:=N,ct:=N,bk:=D.nx } σ2 H2) :=
 Ym as Pv h0 hk (fun i σ H x hx hp=>hs i σ H x hx hp _ (fun _ _ z=>z) rfl) hd
theorem K9{lo:Int}{n:Nat}{g:TG}{tb:TS}{D:Ends}{σ:St}{H:Hp}(Pv:Nat->St->Hp->Prop)(h0:Pv 0 σ H)
  (hs:∀i σ H,i<n->Pv i σ H->∀D':Ends,(∀σ' H',Pv (i+1) σ' H'->D'.nx σ' H')->D'.rt=D.rt->g (.int (lo+i)) σ H fun σ2 H2=>tb D' σ2 H2) (hd:∀σ H,Pv n σ H->D.nx σ H) :
  ∃W:Nat->Nat->St->Hp->Prop,(∃m,W 0 m σ H)/\∀i m σ H,W i m σ H ->
   ((Itr lo n).stop i H/\D.nx σ H)\/((Itr lo n).go i H/\∃N:St->Hp->Prop,(∀σ' H',N σ' H'->∃m',m' < m/\W (i+1) m' σ' H')/\∀x H',(Itr lo n).yld i H x H'->g x σ H' fun σ2 H2=>tb { D with nx:=N,ct:=N,bk:=D.nx } σ2 H2) :=
 Ni Pv h0 (fun i σ H hi hp=>hs i σ H hi hp _ (fun _ _ z=>z) rfl) hd
theorem ex1{α:Type}{A C:α->Prop}{a:α}(e:A a)(h:C a):∃v,A v/\C v:=⟨a,e,h⟩
theorem U5{α0 α1 α2:Type}{A0 A1 A2 A3 A4 A5:α0->α1->α2->Prop}{a:α0}{b:α1}{c:α2}(h0:A0 a b c)(h1:A1 a b c)(h2:A2 a b c)(h3:A3 a b c)(h4:A4 a b c)(h5:A5 a b c):∃a b c,A0 a b c/\A1 a b c/\A2 a b c/\A3 a b c/\A4 a b c/\A5 a b c:=⟨a,b,c,h0,h1,h2,h3,h4,h5⟩
theorem Sq{α0 α1 α2 α3 α4 α5 α6:Type}{A0 A1 A2 A3:α0->α1->α2->α3->α4->α5->α6->Prop}{a:α0}{b:α1}{c:α2}{d:α3}{e:α4}{f:α5}{g:α6}(h0:A0 a b c d e f g)(h1:A1 a b c d e f g)(h2:A2 a b c d e f g)(h3:A3 a b c d e f g):∃a b c d e f g,A0 a b c d e f g/\A1 a b c d e f g/\A2 a b c d e f g/\A3 a b c d e f g:=⟨a,b,c,d,e,f,g,h0,h1,h2,h3⟩
theorem Pk{α0 α1 α2 α3 α4:Type}{A0 A1 A2 A3 A4 A5:α0->α1->α2->α3->α4->Prop}{a:α0}{b:α1}{c:α2}{d:α3}{e:α4}(h0:A0 a b c d e)(h1:A1 a b c d e)(h2:A2 a b c d e)(h3:A3 a b c d e)(h4:A4 a b c d e)(h5:A5 a b c d e):∃a b c d e,A0 a b c d e/\A1 a b c d e/\A2 a b c d e/\A3 a b c d e/\A4 a b c d e/\A5 a b c d e:=⟨a,b,c,d,e,h0,h1,h2,h3,h4,h5⟩
theorem Kd{α0 α1 α2 α3 α4:Type}{A0 A1 A2 A3 A4:α0->α1->α2->α3->α4->Prop}{a:α0}{b:α1}{c:α2}{d:α3}{e:α4}(h0:A0 a b c d e)(h1:A1 a b c d e)(h2:A2 a b c d e)(h3:A3 a b c d e)(h4:A4 a b c d e):∃a b c d e,A0 a b c d e/\A1 a b c d e/\A2 a b c d e/\A3 a b c d e/\A4 a b c d e:=⟨a,b,c,d,e,h0,h1,h2,h3,h4⟩
theorem Zt{α0 α1 α2 α3 α4 α5:Type}{A0 A1 A2 A3 A4 A5 A6 A7:α0->α1->α2->α3->α4->α5->Prop}{a:α0}{b:α1}{c:α2}{d:α3}{e:α4}{f:α5}(h0:A0 a b c d e f)(h1:A1 a b c d e f)(h2:A2 a b c d e f)(h3:A3 a b c d e f)(h4:A4 a b c d e f)(h5:A5 a b c d e f)(h6:A6 a b c d e f)(h7:A7 a b c d e f):∃a b c d e f,A0 a b c d e f/\A1 a b c d e f/\A2 a b c d e f/\A3 a b c d e f/\A4 a b c d e f/\A5 a b c d e f/\A6 a b c d e f/\A7 a b c d e f:=⟨a,b,c,d,e,f,h0,h1,h2,h3,h4,h5,h6,h7⟩
theorem Zv{α0 α1 α2 α3:Type}{A0 A1 A2 A3 A4 A5 A6:α0->α1->α2->α3->Prop}{a:α0}{b:α1}{c:α2}{d:α3}(h0:A0 a b c d)(h1:A1 a b c d)(h2:A2 a b c d)(h3:A3 a b c d)(h4:A4 a b c d)(h5:A5 a b c d)(h6:A6 a b c d):∃a b c d,A0 a b c d/\A1 a b c d/\A2 a b c d/\A3 a b c d/\A4 a b c d/\A5 a b c d/\A6 a b c d:=⟨a,b,c,d,h0,h1,h2,h3,h4,h5,h6⟩
theorem B8{α0 α1:Type}{A0 A1 A2:α0->α1->Prop}{a:α0}{b:α1}(h0:A0 a b)(h1:A1 a b)(h2:A2 a b):∃a b,A0 a b/\A1 a b/\A2 a b:=⟨a,b,h0,h1,h2⟩
theorem C2{t u:TS}{D:Ends}{σ:St}{H:Hp}(h:∀N:St->Hp->Prop,(∀σ' H',u D σ' H'->N σ' H')->t { D with nx:=N } σ H):Me t u D σ H:=h _ fun _ _ z=>z
theorem Ya{i:Nat}{v:V}{t u:TS}{D:Ends}{σ:St}{H:Hp}(h:∀N:St->Hp->Prop,(∀σ' H',u D σ' H'->N σ' H')->t { D with nx:=N } (σ.set i (some v)) H):K7 i v σ H (fun σ2 H2=>Me t u D σ2 H2):=h _ fun _ _ z=>z
end L2
namespace Sw
open PySem L2
section
variable{P:Program}{w:World}{K:PySem.W.Frag}{mg:Str->Option Value}{base:Heap}
noncomputable def Tt(c:Nat):Bool:=decide (97<=c)&&decide (c<=122)
noncomputable def I9(x:Str):Bool:=decide (1<=x.length)&&decide (x.length<=8)&&x.cps.toList.all Tt
theorem Gj:("abcdefghijklmnopqrstuvwxyz":Str).cps.toList=List.range' 97 26:=by decide +kernel
theorem Sy(c:Nat):decide (c∈("abcdefghijklmnopqrstuvwxyz":Str).cps.toList)=Tt c:=by
 rw[Gj]
 unfold Tt
 by_cases h1:97<=c
 ·by_cases h2:c<=122
  ·rw[decide_eq_true (List.mem_range'_1.mpr (by omega)),decide_eq_true h1,decide_eq_true h2];rfl
  ·rw[decide_eq_false (fun z=>by have:=List.mem_range'_1.mp z;omega),decide_eq_false h2,Bool.and_false]
 ·rw[decide_eq_false (fun z=>by have:=List.mem_range'_1.mp z;omega),decide_eq_false h1,Bool.false_and]
theorem Jv:FnScope ["thing"] ["thing"] (B7 s_is_name):=⟨rfl,rfl,rfl,by decide +kernel,rfl,by decide +kernel,by decide +kernel⟩
noncomputable def Bn:Sp:=fun vs H Q _=>∃x,vs = [.str x]/\x.length<=1000/\∀H',Same H H'->Q (.bl (I9 x)) H'
theorem Kj(T:Tx K mg):FnOk P w K mg base CX0 1 T.is_name.f T.is_name.fd ["thing"] Bn:=by
 refine T.is_name.F.ok Jv (fun vs H Q E h=>?_) (fun cdv A outer s H vs Q E hr h=>?_)
 ·obtain⟨x,rfl,_⟩:=h
  rfl
 ·obtain⟨x,rfl,hx,k⟩:=h
  refine⟨_,(B2 (J8 (PW.pt (Az (M2 (G7 (D6 (J5 K) T.b_isinstance B9 (A8 (pv 0) (A8 (S5 T.b_str Im) B0))))) (T3 (M2 (Qx Xy Xy B5 (D6 Fk T.b_len J3 (A8 (pv 0) B0)) (Zf T.gLONGEST_NAME)))))) (B3 (C0 m9)) D9)
   (B3 (C0 (D6 (T0 K) T.b_all T6 (A8 (Q9 (N':=["letter"]) (cap:=[none]) (cl:=[]) (K2 trivial trivial) rfl (Xr (pv 0)) (fun _ _ _ _=>by exact⟨(pgC 0),E9,(C9 Nx (pv 0) (zAc T.gLETTERS) rfl)⟩)) B0))))),?_⟩
  have h64:x.length<=sizeLine:=by rw[sizeLine_eq];omega
  have hlen:x.cps.size=x.length:=rfl
  refine ex1 rfl ⟨.str x, "str",_,true,rfl,.str x,rfl,ex1 rfl ?_⟩
  refine S6 ?_
  refine ex1 rfl ⟨x,rfl,h64,B8 rfl rfl (ex1 rfl ?_)⟩
  refine R1 (fun c1=>?_) (fun c1=>?_)
  ·have c1:(1:Int)<=(x.length:Int):=of_decide_eq_true c1
   refine B8 rfl rfl (ex1 rfl ?_)
   by_cases c2:(x.length:Int)<=8
   ·rw[decide_eq_true c2]
    refine S6 ?_
    refine ex1 rfl ⟨x,rfl,fun D hD=>?_⟩
    refine Be (n:=x.cps.size) (fun i σ H'=>(∃v,σ = [v])/\Same H H'/\H' D=some (.lst ((x.cps.toList.take i).map fun c=>V.bl (Tt c)))) ⟨⟨_,rfl⟩,Same.new hD,A9⟩ (fun i _ _ hi _=>hi) (fun _ _ _=>rfl) ?_ ?_
    ·rintro i σ H1 v H' N hi ⟨⟨v0,rfl⟩,s1,e1⟩ ⟨rfl,c,hc,rfl⟩ hN
     refine R0 ?_
     refine ex1 rfl (B8 rfl rfl ⟨_,e1,?_,?_⟩)
     ·rw[List.length_map,List.length_take,sizeLine_eq];omega
     ·rw[PySem.StrLaws.found_one,Sy]
      refine hN _ _ ⟨⟨_,rfl⟩,s1.upd hD,?_⟩
      rw[A9]
      have:x.cps.toList[i]?=some c:=by rw[Array.getElem?_toList];exact hc
      rw[List.take_add_one,this,List.map_append]
      rfl
    ·rintro σ H1 ⟨_,s1,e1⟩
     refine⟨D,x.cps.toList.map Tt,rfl,SqL.of ?_,?_⟩
     ·rw[e1,<-Array.length_toList,List.take_length,List.map_map];rfl
     ·have e:(x.cps.toList.map Tt).all id=I9 x:=by
       unfold I9
       rw[decide_eq_true (show 1<=x.length by omega),decide_eq_true (show x.length<=8 by omega),List.all_map]
       rfl
      rw[e]
      exact k _ s1
   ·rw[decide_eq_false c2]
    refine Pw ?_
    have e:I9 x=false:=by
     unfold I9
     rw[decide_eq_false (show ¬x.length<=8 by omega),Bool.and_false,Bool.false_and]
    have:=k H (Same.refl H)
    rw[e]at this
    exact this
  ·have c1:¬(1:Int)<=(x.length:Int):=fun z=>c1 (decide_eq_true z)
   refine ex1 rfl ?_
   refine Pw ?_
   have e:I9 x=false:=by
    unfold I9
    rw[decide_eq_false (show ¬1<=x.length by omega),Bool.false_and,Bool.false_and]
   have:=k H (Same.refl H)
   rw[e]at this
   exact this
theorem C1{α:Type}{l:List α}{i:Nat}{x:α}(h:l[i]?=some x):l.take (i+1)=l.take i ++ [x]:=by
 rw[List.take_add_one,h];rfl
theorem Bc{α:Type}{l:List α}{i:Nat}{x:α}(nd:l.Nodup)(h:l[i]?=some x):x∉l.take i:=by
 intro hm
 obtain⟨j,hj,e⟩:=List.getElem_of_mem hm
 have hj':j<i:=by rw[List.length_take]at hj;omega
 rw[List.getElem_take]at e
 obtain⟨hi,e'⟩:=List.getElem?_eq_some_iff.mp h
 have:=(List.getElem_inj nd).mp (e.trans e'.symm)
 omega
theorem T1:FnScope ["names", "seen", "place", "name"] ["names"] (B7 s_check_names):=⟨rfl,rfl,rfl,by decide +kernel,rfl,by decide +kernel,by decide +kernel⟩
noncomputable def b7(ss:List Str):Prop:=(∀x∈ss,I9 x=true)/\ss.Nodup/\ss.length<=100
noncomputable def T2(K:PySem.W.Frag):Sp:=fun vs H Q _=>∃(p:Addr) (ss:List Str),vs = [.ref p]/\SqL K H p (ss.map V.str)/\b7 ss/\∀H',Same H H'->Q .non H'
theorem Mv{x:Str}(h:I9 x=true):1<=x.length/\x.length<=8:=by
 unfold I9 at h
 rw[Bool.and_eq_true,Bool.and_eq_true]at h
 exact⟨of_decide_eq_true h.1.1,of_decide_eq_true h.1.2⟩
theorem Ap(T:Tx K mg):FnOk P w K mg base CX0 2 T.check_names.f T.check_names.fd ["names"] (T2 K):=by
 have G_is_name:FnOk P w K mg base CX0 1 T.is_name.f T.is_name.fd ["thing"] Bn:=Kj T
 have sc:=T1
 refine T.check_names.F.ok T1 (fun vs H Q E h=>?_) (fun cdv A outer s H vs Q E hr h=>?_)
 ·obtain⟨p,ss,rfl,_⟩:=h
  rfl
 ·obtain⟨a,ss,rfl,hS,⟨hN,hD,hL⟩,k⟩:=h
  have hu:=Ew hr
  refine⟨_,(B2 (C6 (i:=1) sc.nd rfl (by first | exact Or.inl rfl | exact Or.inr rfl) (Bo (Uu P w) (by rfl) T.b_set Rn))
   (B3 (M9 PassesOwn.never rfl (piE K T.b_enumerate (A8 (pv 0) B0)) (pgT K (n:=2) (C7 (E1 (i:=2) sc.nd rfl (by first | exact Or.inl rfl | exact Or.inr rfl)) (C7 (E1 (i:=3) sc.nd rfl (by first | exact Or.inl rfl | exact Or.inr rfl)) M6)))
   (B2 (J8 (PW.pt (Az (M2 (G7 (C5 T.is_name G_is_name (hr.mono (by decide)) (A8 (pv 3) B0)))) (T3 (C4 (Zy P w) (pv 3) (pv 1) rfl)))) (B3 Ce) D9)
   (B3 (G6 (Rt P w (Xb P w) (pv 1) (A8 (pv 3) B0)))))))),?_⟩
  refine⟨rfl,fun p hp=>?_⟩
  have s0:Same H (upd H p (Kw P w p [])):=Same.new hp
  refine ex1 rfl ⟨a,ex1 rfl ⟨(s0.at a).seqL hS,Sx (n:=ss.length) (fun i σ H1=>∃v2 v3,σ = [some (.ref a),some (.ref p),v2,v3]/\Same H H1/\H1 p=some (Kw P w p ((ss.take i).map Sum.inr))) ⟨_,_,rfl,s0,A9⟩ ?_ ?_ ?_ ?_⟩⟩
  ·rintro i σ H1 hi ⟨v2,v3,rfl,s1,e1⟩
   exact⟨_,_,(s1.at a).seqL hS,by rw[List.getElem?_map,List.getElem?_eq_getElem hi];rfl⟩
  ·rintro σ H1 ⟨v2,v3,rfl,s1,e1⟩
   exact⟨_,(s1.at a).seqL hS,by rw[List.length_map]⟩
  ·rintro i σ H1 v H' hi ⟨v2,v3,rfl,s1,e1⟩ ⟨t,x,rfl,ht,rfl,hx⟩
   have hx:=hx _ ((s1.at a).seqL hS)
   have hi':ss[i]?=some ss[i]:=List.getElem?_eq_getElem hi
   rw[List.getElem?_map,hi']at hx
   cases hx
   have hm:ss[i]∈ss:=List.getElem_mem hi
   have hnb:=hN _ hm
   have hlen:=Mv hnb
   have npt:p≠t:=B1 e1 ht
   refine⟨t,ex1 rfl ⟨SqT.of A9,rfl,_,ex1 rfl (B8 rfl rfl ?_)⟩⟩
   refine ex1 rfl ⟨ss[i],rfl,by omega,fun H2 s2=>⟨_,rfl,?_⟩⟩
   rw[hnb]
   refine S6 ?_
   have s12:Same H H2:=(s1.trans (Same.new ht)).trans s2
   have e2:H2 p=some (Kw P w p ((ss.take i).map Sum.inr)):=s2 _ _ (by rw[B6 npt];exact e1)
   have hnin:¬(Sum.inr ss[i]:Key)∈(ss.take i).map Sum.inr:=fun z=>by
    obtain⟨y,hy,e⟩:=List.mem_map.mp z
    cases e
    exact Bc hD hi' hy
   refine ex1 rfl (ex1 rfl ⟨p,_,Sum.inr ss[i],rfl,rfl,e2,ex1 rfl ?_⟩)
   rw[if_neg (by decide),decide_eq_false hnin]
   refine S6 ?_
   refine ex1 rfl ⟨⟨p,rfl,.inl ⟨_,e2⟩⟩,ex1 rfl ⟨p,_,Sum.inr ss[i],rfl,rfl,e2,?_,?_⟩⟩
   ·rw[List.length_map,List.length_take];omega
   ·refine⟨_,ex1 rfl ⟨s12.upd hp,?_⟩⟩
    rw[A9]
    unfold Yq
    rw[if_neg hnin,C1 hi',List.map_append]
    rfl
  ·rintro σ H1 ⟨v2,v3,rfl,s1,e1⟩
   exact k H1 s1
end
theorem Ei(ss:List Str):(ss.map V.str).all Da=true:=by
 rw[List.all_eq_true]
 intro v hv
 obtain⟨x,_,rfl⟩:=List.mem_map.mp hv
 rfl
theorem Mf(x:Str)(ss:List Str):inV (.str x) (ss.map V.str)=decide (x∈ss):=by
 unfold inV
 rw[List.any_map]
 induction ss with
 | nil=>rfl
 | cons y r ih =>
  rw[List.any_cons,ih]
  show((y == x)||decide (x∈r))=decide (x∈y::r)
  by_cases e:x=y
  ·subst e
   simp
  ·have:(y == x)=false:=by simpa using fun z=>e z.symm
   rw[this,Bool.false_or]
   by_cases h:x∈r
   ·rw[decide_eq_true h,decide_eq_true (List.mem_cons_of_mem _ h)]
   ·rw[decide_eq_false h,decide_eq_false (fun z=>(List.mem_cons.mp z).elim e h)]
theorem I0{K:PySem.W.Frag}{H:Hp}{p:Addr}{x:Str}{ss:List Str}{Q:VK}(h:Sqs K H p (ss.map V.str))(q:Q (.bl (decide (x∈ss))) H):rIn K false (.str x) (.ref p) H Q :=
 ⟨p,_,rfl,h,rfl,Ei ss,by rw[if_neg (by decide),Mf];exact q⟩
theorem O8{K:PySem.W.Frag}{H:Hp}{p:Addr}{x:Str}{ss:List Str}{Q:VK}(h:Sqs K H p (ss.map V.str))(q:Q (.bl (!decide (x∈ss))) H):rIn K true (.str x) (.ref p) H Q :=
 ⟨p,_,rfl,h,rfl,Ei ss,by rw[if_pos rfl,Mf];exact q⟩
section
variable{P:Program}{w:World}{K:PySem.W.Frag}{mg:Str->Option Value}{base:Heap}
theorem Dn:FnScope ["names", "thing"] ["names", "thing"] (B7 s_is_strike):=⟨rfl,rfl,rfl,by decide +kernel,rfl,by decide +kernel,by decide +kernel⟩
noncomputable def j8(K:PySem.W.Frag):Sp:=fun vs H Q _=>∃(p:Addr) (ss:List Str) (t:Addr) (x y:Str),vs = [.ref p,.ref t]/\SqL K H p (ss.map V.str)/\H t=some (.tup [.str x,.str y])/\x∈ss/\y∈ss/\Q (.bl true) H
theorem Gc(T:Tx K mg):FnOk P w K mg base CX0 1 T.is_strike.f T.is_strike.fd ["names", "thing"] (j8 K):=by
 refine T.is_strike.F.ok Dn (fun vs H Q E h=>?_) (fun cdv A outer s H vs Q E hr h=>?_)
 ·obtain⟨p,ss,t,x,y,rfl,_⟩:=h
  rfl
 ·obtain⟨p,ss,t,x,y,rfl,hS,ht,hx,hy,k⟩:=h
  refine⟨_,(B2 (J8 (PW.pt (Az (M2 (G7 (D6 (J5 K) T.b_isinstance B9 (A8 (pv 1) (A8 (S5 T.b_tuple V5) B0))))) (T3 (C4 Ma (D6 (J9 K) T.b_len J3 (A8 (pv 1) B0)) B5 (E3 _))))) (B3 (C0 m9)) D9)
   (B3 (C0 (K6 (C9 (V3 K) (G9 (ixT K) (pv 1) B5 (fun _ _=>rfl)) (pv 0) rfl) (K1 (C9 (V3 K) (G9 (ixT K) (pv 1) B5 (fun _ _=>rfl)) (pv 0) rfl)))))),?_⟩
  refine ex1 rfl ⟨_, "tuple",_,true,rfl,.tup ht,rfl,ex1 rfl ?_⟩
  refine S6 ?_
  refine ex1 rfl (B8 (a:=t) rfl (.inr (SqT.of ht)) ⟨rfl,ex1 rfl ?_⟩)
  refine S6 ?_
  refine ex1 rfl ⟨t,_,B8 rfl rfl ⟨SqT.of ht,rfl,ex1 rfl (I0 (.inl hS) ⟨_,rfl,?_⟩)⟩⟩
  rw[decide_eq_true hx]
  refine Pw ?_
  refine ex1 rfl ⟨t,_,B8 rfl rfl ⟨SqT.of ht,rfl,ex1 rfl (I0 (.inl hS) ?_)⟩⟩
  rw[decide_eq_true hy]
  exact k
structure StrkOk(ss:List Str)(ps:List PA2):Prop where
 nm:∀q∈ps,q.2.1∈ss/\q.2.2∈ss
 nd:(ps.map fun q=>q.2).Nodup
 len:ps.length<=200
noncomputable def E8(ps:List PA2):List V:=ps.map fun q=>V.ref q.1
noncomputable def Gx(ps:List PA2):List (List Key×Addr):=ps.map fun q=>([.inr q.2.1,.inr q.2.2],q.1)
theorem Pq{H:Hp}{ps:List PA2}(h:∀q∈ps,D0 H q):Jj H (Gx ps):=fun k hk=>by
 obtain⟨q,hq,rfl⟩:=List.mem_map.mp hk
 exact h q hq
theorem E6{H H':Hp}{ps:List PA2}(s:Same H H')(h:∀q∈ps,D0 H q):∀q∈ps,D0 H' q:=fun q hq=>s _ _ (h q hq)
theorem P5:FnScope ["names", "strikes", "seen", "place", "strike"] ["names", "strikes"] (B7 s_check_strikes):=⟨rfl,rfl,rfl,by decide +kernel,rfl,by decide +kernel,by decide +kernel⟩
noncomputable def P9(K:PySem.W.Frag):Sp:=fun vs H Q _=>∃(p:Addr) (ss:List Str) (a:Addr) (ps:List PA2),vs = [.ref p,.ref a]/\SqL K H p (ss.map V.str)/\SqL K H a (E8 ps)/\(∀q∈ps,D0 H q)/\StrkOk ss ps/\∀H',Same H H'->Q .non H'
theorem l9(T:Tx K mg):FnOk P w K mg base CX0 2 T.check_strikes.f T.check_strikes.fd ["names", "strikes"] (P9 K):=by
 have G_is_strike:FnOk P w K mg base CX0 1 T.is_strike.f T.is_strike.fd ["names", "thing"] (j8 K):=Gc T
 have sc:=P5
 refine T.check_strikes.F.ok P5 (fun vs H Q E h=>?_) (fun cdv A outer s H vs Q E hr h=>?_)
 ·obtain⟨p,ss,t,x,rfl,_⟩:=h
  rfl
 ·obtain⟨n,ss,a,ps,rfl,hS,hP,hI,⟨hN,hD,hL⟩,k⟩:=h
  have hu:=Ew hr
  refine⟨_,(B2 (C6 (i:=2) sc.nd rfl (by first | exact Or.inl rfl | exact Or.inr rfl) (Bo (Qm P w) (by rfl) T.b_set Rn))
   (B3 (M9 PassesOwn.never rfl (piE K T.b_enumerate (A8 (pv 1) B0)) (pgT K (n:=2) (C7 (E1 (i:=3) sc.nd rfl (by first | exact Or.inl rfl | exact Or.inr rfl)) (C7 (E1 (i:=4) sc.nd rfl (by first | exact Or.inl rfl | exact Or.inr rfl)) M6)))
   (B2 (J8 (PW.pt (Az (M2 (G7 (C5 T.is_strike G_is_strike (hr.mono (by decide)) (A8 (pv 0) (A8 (pv 4) B0))))) (T3 (C4 (Yy P w hu) (pv 4) (pv 2) rfl)))) (B3 Ce) D9)
   (B3 (G6 (Rt P w (Yj P w hu) (pv 2) (A8 (pv 4) B0)))))))),?_⟩
  refine⟨rfl,fun p hp=>?_⟩
  have s0:Same H (upd H p (Kx P w p [])):=Same.new hp
  refine ex1 rfl ⟨a,ex1 rfl ⟨(s0.at a).seqL hP,Sx (n:=ps.length) (fun i σ H1=>∃v3 v4,σ = [some (.ref n),some (.ref a),some (.ref p),v3,v4]/\Same H H1/\H1 p=some (Kx P w p (Gx (ps.take i)))) ⟨_,_,rfl,s0,A9⟩ ?_ ?_ ?_ ?_⟩⟩
  ·rintro i σ H1 hi ⟨v2,v3,rfl,s1,e1⟩
   exact⟨_,_,(s1.at a).seqL hP,by unfold E8;rw[List.getElem?_map,List.getElem?_eq_getElem hi];rfl⟩
  ·rintro σ H1 ⟨v2,v3,rfl,s1,e1⟩
   exact⟨_,(s1.at a).seqL hP,by unfold E8;rw[List.length_map]⟩
  ·rintro i σ H1 v H' hi ⟨v2,v3,rfl,s1,e1⟩ ⟨t,x,rfl,ht,rfl,hx⟩
   have hx:=hx _ ((s1.at a).seqL hP)
   have hi':ps[i]?=some ps[i]:=List.getElem?_eq_getElem hi
   unfold E8 at hx
   rw[List.getElem?_map,hi']at hx
   cases hx
   have hm:ps[i]∈ps:=List.getElem_mem hi
   obtain⟨hn1,hn2⟩:=hN _ hm
   have npt:p≠t:=B1 e1 ht
   have s2:Same H (upd H1 t (.tup [.int i,.ref ps[i].1])):=s1.trans (Same.new ht)
   have hq:=s2 _ _ (hI _ hm)
   refine⟨t,ex1 rfl ⟨SqT.of A9,rfl,_,ex1 rfl (B8 rfl rfl ?_)⟩⟩
   refine ex1 rfl (ex1 rfl ⟨n,ss,ps[i].1,ps[i].2.1,ps[i].2.2,rfl,(s2.at n).seqL hS,hq,hn1,hn2,ex1 rfl ?_⟩)
   refine S6 ?_
   have e2:(upd H1 t (.tup [.int i,.ref ps[i].1])) p=some (Kx P w p (Gx (ps.take i))):=by rw[B6 npt];exact e1
   have hin:Jj (upd H1 t (.tup [.int i,.ref ps[i].1])) (Gx (ps.take i)):=Pq (E6 s2 fun q hq=>hI q (List.mem_of_mem_take hq))
   have hne:∀q∈Gx (ps.take i),q.1≠[.inr ps[i].2.1,.inr ps[i].2.2]:=fun q hq e=>by
    obtain⟨z,hz,rfl⟩:=List.mem_map.mp hq
    have e':z.2=ps[i].2:=by
     obtain⟨z1,z2,z3⟩:=z
     simp only[List.cons.injEq,Sum.inr.injEq,and_true]at e
     exact Prod.ext e.1 e.2
    have h1:(ps.map fun q=>q.2)[i]?=some ps[i].2:=by rw[List.getElem?_map,hi'];rfl
    refine Bc hD h1 ?_
    rw[<-List.map_take,<-e']
    exact List.mem_map.mpr ⟨z,hz,rfl⟩
   refine ex1 rfl (ex1 rfl ⟨p,ps[i].1,_,[.inr ps[i].2.1,.inr ps[i].2.2],rfl,rfl,e2,hq,hin,hne,ex1 rfl ?_⟩)
   refine S6 ?_
   refine ex1 rfl ⟨⟨p,rfl,.inr (.inr ⟨_,e2⟩)⟩,ex1 rfl ⟨p,ps[i].1,_,[.inr ps[i].2.1,.inr ps[i].2.2],rfl,rfl,e2,hq,hin,hne,?_,?_⟩⟩
   ·unfold Gx;rw[List.length_map,List.length_take];omega
   ·refine⟨_,ex1 rfl ⟨s2.upd hp,?_⟩⟩
    rw[A9,C1 hi']
    unfold Gx
    rw[List.map_append]
    rfl
  ·rintro σ H1 ⟨v2,v3,rfl,s1,e1⟩
   exact k H1 s1
end
noncomputable def la(kvs:List (Key×V))(n:Str):Addr:=match Y1 kvs (.inr n)with | some (.ref l)=>l | _=>0
theorem Gk(kvs:List (Key×V))(n m:Str)(v:V):Y1 (Mw kvs (Sum.inr n:Key) v) (.inr m)=if m=n then some v else Y1 kvs (.inr m):=by
 rw[Pe]
 by_cases e:m=n
 ·rw[if_pos e,if_pos (by rw[e])]
 ·rw[if_neg e,if_neg (fun z=>e (Sum.inr.inj z))]
theorem Bu(kvs:List (Key×V))(n m:Str)(p:Addr):la (Mw kvs (.inr n) (.ref p)) m=if m=n then p else la kvs m:=by
 unfold la
 rw[Gk]
 by_cases e:m=n
 ·rw[if_pos e,if_pos e]
 ·rw[if_neg e,if_neg e]
structure DOk(H0:Hp)(kvs:List (Key×V))(ns:List Str):Prop where
 val:∀n∈ns,Y1 kvs (.inr n)=some (.ref (la kvs n))
 inj:∀n∈ns,∀m∈ns,la kvs n=la kvs m->n=m
 fr:∀n∈ns,H0 (la kvs n)=none
theorem Sb{K:PySem.W.Frag}{J:It}{a:Addr}{ns:List Str}{H:Hp}{σ:St}{Q:St->Hp->Prop}(as:AsSeq J (ns.map V.str) a H)(hσ:∃v,σ = [v])(nd:ns.Nodup)(hl:ns.length<=1000){D:Addr}(hD:H D=none)
  (q:∀σ kvs H',Same H H'->H' D=some (.dK kvs)->DOk H kvs ns->(∀n∈ns,H' (la kvs n)=some (.lst []))->(∀n∈ns,la kvs n≠D)->Q σ H') :
  Aq (K7 0) De (Re D (Hc 0) (zAj Hk)) J σ (upd H D (.dK [])) Q:=by
 obtain⟨v,rfl⟩:=hσ
 refine J4 as (fun i σ H1=>(∃v,σ = [v])/\∃kvs,Same H H1/\H1 D=some (.dK kvs)/\kvs.length<=i/\DOk H kvs (ns.take i)/\(∀n∈ns.take i,H1 (la kvs n)=some (.lst []))/\∀n∈ns.take i,la kvs n≠D)
  ⟨⟨v,rfl⟩,[],Same.new hD,A9,Nat.zero_le _,⟨fun n h=>by simp at h,fun n h=>by simp at h,fun n h=>by simp at h⟩,fun n h=>by simp at h,fun n h=>by simp at h⟩ (fun i σ H1 _ ⟨_,kvs,s1,_⟩=>s1.at a) ?_ ?_
 ·rintro i σ H1 x N hx ⟨⟨v,rfl⟩,kvs,s1,e1,l1,D1,c1,n1⟩ hN
  rw[List.getElem?_map]at hx
  have hi:i<ns.length:=by
   rcases Nat.lt_or_ge i ns.length with z | z
   ·exact z
   ·rw[List.getElem?_eq_none z]at hx;cases hx
  have hi':ns[i]?=some ns[i]:=List.getElem?_eq_getElem hi
  rw[hi']at hx
  cases hx
  refine R0 ?_
  refine ex1 rfl ⟨Nat.zero_le _,fun p hp=>?_⟩
  have npD:D≠p:=B1 e1 hp
  refine⟨kvs,.inr ns[i],by rw[B6 npD];exact e1,rfl,by rw[sizeLine_eq];omega,hN _ _ ⟨⟨_,rfl⟩,Mw kvs (.inr ns[i]) (.ref p),?_,A9,?_,⟨?_,?_,?_⟩,?_,?_⟩⟩
  ·exact(s1.trans (Same.new hp)).upd hD
  ·have:=U7 kvs (Sum.inr ns[i]:Key) (.ref p)
   omega
  all_goals rw[C1 hi']
  ·intro n hn
   rw[Gk,Bu]
   by_cases e:n=ns[i]
   ·rw[if_pos e,if_pos e]
   ·rw[if_neg e,if_neg e]
    rcases List.mem_append.mp hn with z | z
    ·exact D1.val n z
    ·exact absurd (List.mem_singleton.mp z) e
  ·intro n hn m hm
   rw[Bu,Bu]
   have old:∀k∈ns.take i ++ [ns[i]],k≠ns[i]->k∈ns.take i:=fun k hk e=>(List.mem_append.mp hk).elim id fun z=>absurd (List.mem_singleton.mp z) e
   by_cases e:n=ns[i]
   ·by_cases e':m=ns[i]
    ·exact fun _=>e.trans e'.symm
    ·rw[if_pos e,if_neg e']
     intro z
     have:=c1 m (old m hm e')
     rw[<-z,hp]at this;cases this
   ·by_cases e':m=ns[i]
    ·rw[if_neg e,if_pos e']
     intro z
     have:=c1 n (old n hn e)
     rw[z,hp]at this;cases this
    ·rw[if_neg e,if_neg e']
     exact D1.inj n (old n hn e) m (old m hm e')
  ·intro n hn
   rw[Bu]
   by_cases e:n=ns[i]
   ·rw[if_pos e];exact s1.free hp
   ·rw[if_neg e]
    rcases List.mem_append.mp hn with z | z
    ·exact D1.fr n z
    ·exact absurd (List.mem_singleton.mp z) e
  ·intro n hn
   rw[Bu]
   by_cases e:n=ns[i]
   ·rw[if_pos e,B6 npD.symm,A9]
   ·rw[if_neg e]
    rcases List.mem_append.mp hn with z | z
    ·rw[B6 (n1 n z),B6 (B1 (c1 n z) hp)]
     exact c1 n z
    ·exact absurd (List.mem_singleton.mp z) e
  ·intro n hn
   rw[Bu]
   by_cases e:n=ns[i]
   ·rw[if_pos e];exact npD.symm
   ·rw[if_neg e]
    rcases List.mem_append.mp hn with z | z
    ·exact n1 n z
    ·exact absurd (List.mem_singleton.mp z) e
 ·rintro σ H1 ⟨_,kvs,s1,e1,l1,D1,c1,n1⟩
  rw[List.length_map]at *
  rw[List.take_length]at *
  exact q σ kvs H1 s1 e1 D1 c1 n1
noncomputable def B4(qs:List PA2)(n:Str):List Str:=(qs.filter fun q=>decide (q.2.2=n)).map fun q=>q.2.1
noncomputable def C3(qs:List PA2)(n:Str):List Str:=(qs.filter fun q=>decide (q.2.1=n)).map fun q=>q.2.2
theorem y9(qs:List PA2)(q:PA2)(n:Str):B4 (qs ++ [q]) n=B4 qs n ++(if q.2.2=n then [q.2.1]else []):=by
 unfold B4
 rw[List.filter_append,List.map_append]
 by_cases e:q.2.2=n
 ·rw[if_pos e,List.filter_cons,if_pos (decide_eq_true e)];rfl
 ·rw[if_neg e,List.filter_cons,if_neg (by simp[e])];rfl
theorem Db(qs:List PA2)(q:PA2)(n:Str):C3 (qs ++ [q]) n=C3 qs n ++(if q.2.1=n then [q.2.2]else []):=by
 unfold C3
 rw[List.filter_append,List.map_append]
 by_cases e:q.2.1=n
 ·rw[if_pos e,List.filter_cons,if_pos (decide_eq_true e)];rfl
 ·rw[if_neg e,List.filter_cons,if_neg (by simp[e])];rfl
noncomputable def wf(a b c d:Addr):List (Str×V):=[("names",.ref a),("strikes",.ref b),("strikers_by_name",.ref c),("struck_by_name",.ref d)]
structure WebOk(ns:List Str)(qs:List PA2):Prop where
 nd:ns.Nodup
 len:ns.length<=100
 srt:ns.Pairwise leS
 mem:∀q∈qs,q.2.1∈ns/\q.2.2∈ns
 ndq:(qs.map fun q=>q.2).Nodup
 lenq:qs.length<=200
 srq:qs.Pairwise leP
structure WebAt(C:Addr)(H:Hp)(x:Addr)(ns:List Str)(qs:List PA2):Prop where
 ok:WebOk ns qs
 ex:∃dx a b c d kc kd,H x=some (.ins C dx (wf a b c d))/\H a=some (.lst (ns.map V.str))/\H b=some (.lst (E8 qs))/\(∀q∈qs,D0 H q)/\H c=some (.dK kc)/\H d=some (.dK kd) /\
  (∀n∈ns,∃l,Y1 kc (.inr n)=some (.ref l)/\H l=some (.lst ((B4 qs n).map V.str)))/\∀n∈ns,∃l,Y1 kd (.inr n)=some (.ref l)/\H l=some (.lst ((C3 qs n).map V.str))
section
variable{P:Program}{w:World}{K:PySem.W.Frag}{mg:Str->Option Value}{base:Heap}
theorem R4:FnScope ["self", "names", "strikes", "one", "other"] ["self", "names", "strikes"] (B7 s_Web___init__):=⟨rfl,rfl,rfl,by decide +kernel,rfl,by decide +kernel,by decide +kernel⟩
noncomputable def w5(K:PySem.W.Frag)(C:Addr):Sp:=fun vs H Q _=>∃(x dx n:Addr) (ss:List Str) (a:Addr) (ps:List PA2),vs = [.ref x,.ref n,.ref a]/\H x=some (.ins C dx [])/\H n=some (.lst (ss.map V.str))/\b7 ss /\
 H a=some (.lst (E8 ps))/\(∀q∈ps,D0 H q)/\StrkOk ss ps/\∀ns qs H',ns.Perm ss->ns.Pairwise leS->qs.Perm ps->qs.Pairwise leP->Sm [x] H H'->WebAt C H' x ns qs->Q .non H'
theorem Ib(T:Tx K mg):FnOk P w K mg base CX0 3 T.fWeb___init__ T.fdWeb___init__ ["self", "names", "strikes"] (w5 K T.CWeb):=by
 have G_check_names:FnOk P w K mg base CX0 2 T.check_names.f T.check_names.fd ["names"] (T2 K):=Ap T
 have G_check_strikes:FnOk P w K mg base CX0 2 T.check_strikes.f T.check_strikes.fd ["names", "strikes"] (P9 K):=l9 T
 have sc:=R4
 refine T.FWeb___init__.ok R4 (fun vs H Q E h=>?_) (fun cdv A outer s H vs Q E hr h=>?_)
 ·obtain⟨x,dx,n,ss,a,ps,rfl,_⟩:=h
  rfl
 ·obtain⟨x,dx,n,ss,a,ps,rfl,hx,hS,hN,hP,hI,hO,k⟩:=h
  have hu:=Ew hr
  refine⟨_,(B2 (G6 (C5 T.check_names G_check_names (hr.mono (by decide)) (A8 (pv 1) B0)))
   (B2 (G6 (C5 T.check_strikes G_check_strikes (hr.mono (by decide)) (A8 (pv 1) (A8 (pv 2) B0))))
   (B2 (psF K (pv 0) (D6 (p9 K) T.b_sorted K3 (A8 (pv 1) B0)))
   (B2 (psF K (pv 0) (D6 (Ps K) T.b_sorted K3 (A8 (pv 2) B0)))
   (B2 (psF K (pv 0) (Tu (N':=["name"]) (cap:=[none]) (cl:=[]) (K2 trivial trivial) rfl (piL K (peF K (pv 0))) (fun _ _ _ _=>by exact⟨(pgC 0),E9,(pv 0),(J1 B0)⟩)))
   (B2 (psF K (pv 0) (Tu (N':=["name"]) (cap:=[none]) (cl:=[]) (K2 trivial trivial) rfl (piL K (peF K (pv 0))) (fun _ _ _ _=>by exact⟨(pgC 0),E9,(pv 0),(J1 B0)⟩)))
   (B3 (M9 PassesOwn.never rfl (piL K (peF K (pv 0))) (pgT K (n:=2) (C7 (E1 (i:=3) sc.nd rfl (by first | exact Or.inl rfl | exact Or.inr rfl)) (C7 (E1 (i:=4) sc.nd rfl (by first | exact Or.inl rfl | exact Or.inr rfl)) M6)))
   (B2 (G6 (Jh K PySem.F.plainAttrs_list PySem.F.slot_list_append PySem.F.type_list_append G8 (V1 hu (peF K (pv 0)) (pv 4) (fun _ _=>rfl)) (A8 (pv 3) B0)))
   (B3 (G6 (Jh K PySem.F.plainAttrs_list PySem.F.slot_list_append PySem.F.type_list_append G8 (V1 hu (peF K (pv 0)) (pv 3) (fun _ _=>rfl)) (A8 (pv 4) B0))))))))))))),?_⟩
  obtain⟨hN1,hN2,hN3⟩:=id hN
  obtain⟨hO1,hO2,hO3⟩:=id hO
  refine C2 fun Z1 hZ1=>?_
  refine ex1 rfl ⟨n,ss,rfl,SqL.of hS,hN,fun H1 s1=>?_⟩
  refine hZ1 _ _ (C2 fun Z2 hZ2=>?_)
  refine ex1 rfl (ex1 rfl ⟨n,ss,a,ps,rfl,SqL.of (s1 _ _ hS),SqL.of (s1 _ _ hP),E6 s1 hI,hO,fun H2 s2=>?_⟩)
  refine hZ2 _ _ (C2 fun Z3 hZ3=>?_)
  have s12:=s1.trans s2
  refine ex1 rfl ⟨n,ss,rfl,SqL.of (s12 _ _ hS),fun l1 ns hl1 p1 w1=>?_⟩
  have nx1:x≠l1:=B1 (s12 _ _ hx) hl1
  refine ex1 rfl ⟨x,T.CWeb,dx,[],rfl,by rw[B6 nx1];exact s12 _ _ hx,T.clWeb,T.nWeb_names,by decide,?_⟩
  have hxa:a≠x:=T9 hP hx (by intro z;cases z)
  have k3:Sm [x] H (upd (upd H2 l1 (.lst (ns.map V.str))) x (.ins T.CWeb dx (V4 "names" (.ref l1) []))):=(Sm.new s12.sm hl1).upd (by simp)
  have e3:(upd (upd H2 l1 (.lst (ns.map V.str))) x (.ins T.CWeb dx (V4 "names" (.ref l1) []))) l1=some (.lst (ns.map V.str)):=by rw[B6 nx1.symm,A9]
  generalize hH3:upd (upd H2 l1 (.lst (ns.map V.str))) x (.ins T.CWeb dx (V4 "names" (.ref l1) []))=H3 at k3 e3⊢
  refine hZ3 _ _ (C2 fun Z4 hZ4=>?_)
  have x3:H3 x=some (.ins T.CWeb dx [("names",.ref l1)]):=by rw[<-hH3,A9];rfl
  have nin:∀{b:Addr},b≠x->b∉[x]:=fun h z=>h (List.mem_singleton.mp z)
  have pin3:∀q∈ps,D0 H3 q:=fun q hq=>k3 _ _ (hI q hq) (nin (T9 (hI q hq) hx (by intro z;cases z)))
  refine ex1 rfl ⟨a,ps,rfl,SqL.of (k3 _ _ hP (nin hxa)),pin3,fun l2 qs hl2 p2 w2=>?_⟩
  have nx2:x≠l2:=B1 x3 hl2
  refine ex1 rfl ⟨x,T.CWeb,dx,[("names",.ref l1)],rfl,by rw[B6 nx2];exact x3,T.clWeb,T.nWeb_strikes,by simp,?_⟩
  have k4:Sm [x] H3 (upd (upd H3 l2 (.lst (E8 qs))) x (.ins T.CWeb dx (V4 "strikes" (.ref l2) [("names",.ref l1)]))):=(Sm.new (Sm.refl _ _) hl2).upd (by simp)
  have e4:(upd (upd H3 l2 (.lst (E8 qs))) x (.ins T.CWeb dx (V4 "strikes" (.ref l2) [("names",.ref l1)]))) l2=some (.lst (E8 qs)):=by rw[B6 nx2.symm,A9]
  have x4:(upd (upd H3 l2 (.lst (E8 qs))) x (.ins T.CWeb dx (V4 "strikes" (.ref l2) [("names",.ref l1)]))) x=some (.ins T.CWeb dx [("names",.ref l1),("strikes",.ref l2)]):=by rw[A9];rfl
  refine hZ4 _ _ ?_
  show Me _ _ _ _ (upd (upd H3 l2 (.lst (E8 qs))) x (.ins T.CWeb dx (V4 "strikes" (.ref l2) [("names",.ref l1)])))
  generalize upd (upd H3 l2 (.lst (E8 qs))) x (.ins T.CWeb dx (V4 "strikes" (.ref l2) [("names",.ref l1)]))=H4 at k4 e4 x4⊢
  have f4:H4 l1=some (.lst (ns.map V.str)):=k4 _ _ e3 (nin nx1.symm)
  have pin4:∀q∈qs,D0 H4 q:=fun q hq=>k4 _ _ (pin3 q (p2.mem_iff.mp hq)) (nin (T9 (pin3 q (p2.mem_iff.mp hq)) x3 (by intro z;cases z)))
  have ndn:ns.Nodup:=p1.nodup_iff.mpr hN2
  have lnn:ns.length<=1000:=by rw[p1.length_eq];omega
  refine C2 fun Z5 hZ5=>?_
  refine ex1 rfl ⟨x,T.CWeb,dx,_,ex1 rfl ⟨x4,T.clWeb,T.nWeb_names,rfl,l1,rfl,⟨_,SqL.of f4⟩,fun c hc=>Sb (K:=K) (asL (SqL.of f4)) ⟨_,rfl⟩ ndn lnn hc fun _ kc H5 s5 e5 D5 c5 n5=>?_⟩⟩
  have x5:=s5 _ _ x4
  refine ex1 rfl ⟨x,T.CWeb,dx,ex1 rfl ⟨x5,T.clWeb,T.nWeb_strikers_by_name,by simp,?_⟩⟩
  have k6:Sm [x] H5 (upd H5 x (.ins T.CWeb dx (V4 "strikers_by_name" (.ref c) [("names",.ref l1),("strikes",.ref l2)]))):=(Sm.refl _ _).upd (by simp)
  have x6:(upd H5 x (.ins T.CWeb dx (V4 "strikers_by_name" (.ref c) [("names",.ref l1),("strikes",.ref l2)]))) x=some (.ins T.CWeb dx [("names",.ref l1),("strikes",.ref l2),("strikers_by_name",.ref c)]):=by rw[A9];rfl
  generalize upd H5 x (.ins T.CWeb dx (V4 "strikers_by_name" (.ref c) [("names",.ref l1),("strikes",.ref l2)]))=H6 at k6 x6⊢
  refine hZ5 _ _ (C2 fun Z6 hZ6=>?_)
  have kk6:∀{b:Addr} {o:HO},H4 b=some o->b≠x->H6 b=some o:=fun e hb=>k6 _ _ (s5 _ _ e) (nin hb)
  have f6:=kk6 f4 nx1.symm
  have g6:=kk6 e4 nx2.symm
  have c6:H6 c=some (.dK kc):=k6 _ _ e5 (nin (B1 x4 hc).symm)
  have cl6:∀n∈ns,H6 (la kc n)=some (.lst []):=fun n hn=>k6 _ _ (c5 n hn) (nin (B1 x4 (D5.fr n hn)).symm)
  refine ex1 rfl ⟨x,T.CWeb,dx,_,ex1 rfl ⟨x6,T.clWeb,T.nWeb_names,rfl,l1,rfl,⟨_,SqL.of f6⟩,fun d hd=>Sb (K:=K) (asL (SqL.of f6)) ⟨_,rfl⟩ ndn lnn hd fun _ kd H7 s7 e7 D7 c7 n7=>?_⟩⟩
  have x7:=s7 _ _ x6
  refine ex1 rfl ⟨x,T.CWeb,dx,ex1 rfl ⟨x7,T.clWeb,T.nWeb_struck_by_name,by simp,?_⟩⟩
  have k8:Sm [x] H7 (upd H7 x (.ins T.CWeb dx (V4 "struck_by_name" (.ref d) [("names",.ref l1),("strikes",.ref l2),("strikers_by_name",.ref c)]))):=(Sm.refl _ _).upd (by simp)
  have x8:(upd H7 x (.ins T.CWeb dx (V4 "struck_by_name" (.ref d) [("names",.ref l1),("strikes",.ref l2),("strikers_by_name",.ref c)]))) x=some (.ins T.CWeb dx (wf l1 l2 c d)):=by rw[A9];rfl
  generalize upd H7 x (.ins T.CWeb dx (V4 "struck_by_name" (.ref d) [("names",.ref l1),("strikes",.ref l2),("strikers_by_name",.ref c)]))=H8 at k8 x8⊢
  refine hZ6 _ _ ?_
  have kk8:∀{b:Addr} {o:HO},H6 b=some o->b≠x->H8 b=some o:=fun e hb=>k8 _ _ (s7 _ _ e) (nin hb)
  have f8:=kk8 f6 nx1.symm
  have g8:=kk8 g6 nx2.symm
  have c8:=kk8 c6 (B1 x4 hc).symm
  have d8:H8 d=some (.dK kd):=k8 _ _ e7 (nin (B1 x6 hd).symm)
  have cl8:∀n∈ns,H8 (la kc n)=some (.lst []):=fun n hn=>kk8 (cl6 n hn) (B1 x4 (D5.fr n hn)).symm
  have dl8:∀n∈ns,H8 (la kd n)=some (.lst []):=fun n hn=>k8 _ _ (c7 n hn) (nin (B1 x6 (D7.fr n hn)).symm)
  have pin8:∀q∈qs,D0 H8 q:=fun q hq=>kk8 (kk6 (pin4 q hq) (T9 (pin4 q hq) x4 (by intro z;cases z))) (T9 (pin4 q hq) x4 (by intro z;cases z))
  have dif:∀n∈ns,∀m∈ns,la kc n≠la kd m:=fun n hn m hm=>B1 (cl6 n hn) (D7.fr m hm)
  have old4:∀{b:Addr} {o:HO},H4 b=some o->b≠x->(∀n∈ns,b≠la kc n)/\∀n∈ns,b≠la kd n:=fun e hb=>⟨fun n hn=>B1 e (D5.fr n hn),fun n hn=>B1 (kk6 e hb) (D7.fr n hn)⟩
  have kall:Sm [x] H H8:=fun b o e hb=>by
   have hb':b≠x:=fun z=>hb (by simp[z])
   exact kk8 (kk6 (k4 _ _ (k3 _ _ e hb) hb) hb') hb'
  have odif:∀{b:Addr} {o:HO},H b=some o->b≠x->(∀n∈ns,b≠la kc n)/\∀n∈ns,b≠la kd n:=fun e hb=>old4 (k4 _ _ (k3 _ _ e (nin hb)) (nin hb)) hb
  have xdif:(∀n∈ns,x≠la kc n)/\∀n∈ns,x≠la kd n:=⟨fun n hn=>B1 x4 (D5.fr n hn),fun n hn=>B1 x6 (D7.fr n hn)⟩
  have cdif:(∀n∈ns,c≠la kc n)/\∀n∈ns,c≠la kd n:=⟨fun n hn=>(n5 n hn).symm,fun n hn=>B1 c6 (D7.fr n hn)⟩
  have ddif:(∀n∈ns,d≠la kc n)/\∀n∈ns,d≠la kd n:=⟨fun n hn=>(B1 (cl6 n hn) hd).symm,fun n hn=>(n7 n hn).symm⟩
  refine⟨_,rfl,x,T.CWeb,dx,_,_,rfl,x8,T.clWeb,T.nWeb_strikes,rfl,l2,rfl,⟨_,SqL.of g8⟩,U2 (asL (SqL.of g8)) (fun i σ H9=>(∃v3 v4,σ = [some (.ref x),some (.ref n),some (.ref a),v3,v4]) /\
   (∀b o,H8 b=some o->((∀n∈ns,b≠la kc n)/\∀n∈ns,b≠la kd n)->H9 b=some o)/\(∀n∈ns,H9 (la kc n)=some (.lst ((B4 (qs.take i) n).map V.str)))/\∀n∈ns,H9 (la kd n)=some (.lst ((C3 (qs.take i) n).map V.str)))
   ⟨⟨_,_,rfl⟩,fun b o e _=>e,cl8,dl8⟩ ?_ ?_ ?_⟩
  ·rintro i σ H9 _ ⟨_,h1,_⟩ o e
   exact h1 _ _ e (old4 e4 nx2.symm)
  ·rintro i σ H9 v hv ⟨⟨v3,v4,rfl⟩,h1,h2,h3⟩ D1 hD1 _
   unfold E8 at hv
   rw[List.getElem?_map]at hv
   cases hq:qs[i]? with
   | none=>rw[hq]at hv;cases hv
   | some q =>
    rw[hq]at hv
    cases hv
    have hm:q∈qs:=List.mem_of_getElem? hq
    have hq9:D0 H9 q:=h1 _ _ (pin8 q hm) (old4 (pin4 q hm) (T9 (pin4 q hm) x4 (by intro z;cases z)))
    obtain⟨m1,m2⟩:=hO1 q (p2.mem_iff.mp hm)
    have m1:q.2.1∈ns:=p1.mem_iff.mpr m1
    have m2:q.2.2∈ns:=p1.mem_iff.mpr m2
    have hlen:∀l:List PA2,l.length<=200->∀n,(B4 l n).length<=200/\(C3 l n).length<=200:=fun l hl n=>by
     unfold B4 C3
     rw[List.length_map,List.length_map]
     exact⟨Nat.le_trans (List.length_filter_le ..) hl,Nat.le_trans (List.length_filter_le ..) hl⟩
    have hl200:(qs.take i).length<=200:=by
     rw[List.length_take]
     have:=p2.length_eq
     omega
    have x9:H9 x=some (.ins T.CWeb dx (wf l1 l2 c d)):=h1 _ _ x8 xdif
    refine⟨q.1,ex1 rfl ⟨SqT.of hq9,rfl,_,ex1 rfl (B8 rfl rfl ?_)⟩⟩
    refine ex1 rfl ⟨x,T.CWeb,dx,_,ex1 rfl ⟨x9,T.clWeb,T.nWeb_strikers_by_name,rfl,ex1 rfl ⟨c,.ref (la kc q.2.2),rfl,by rw[<-D5.val _ m2];exact DGet.k (k:=Sum.inr q.2.2) (h1 _ _ c8 cdif),.inl ⟨rfl,_,SqL.of (h2 _ m2)⟩,ex1 rfl ⟨_,B8 rfl rfl ⟨h2 _ m2,?_,?_⟩⟩⟩⟩⟩
    ·rw[List.length_map,sizeLine_eq]
     have:=(hlen _ hl200 q.2.2).1
     omega
    have x10:(upd H9 (la kc q.2.2) (.lst ((B4 (qs.take i) q.2.2).map V.str ++ [.str q.2.1]))) x=some (.ins T.CWeb dx (wf l1 l2 c d)):=by rw[B6 (xdif.1 _ m2)];exact x9
    have d10:(upd H9 (la kc q.2.2) (.lst ((B4 (qs.take i) q.2.2).map V.str ++ [.str q.2.1]))) d=some (.dK kd):=by rw[B6 (ddif.1 _ m2)];exact h1 _ _ d8 ddif
    have l10:(upd H9 (la kc q.2.2) (.lst ((B4 (qs.take i) q.2.2).map V.str ++ [.str q.2.1]))) (la kd q.2.1)=some (.lst ((C3 (qs.take i) q.2.1).map V.str)):=by rw[B6 (dif _ m2 _ m1).symm];exact h3 _ m1
    refine ex1 rfl ⟨x,T.CWeb,dx,_,ex1 rfl ⟨x10,T.clWeb,T.nWeb_struck_by_name,rfl,ex1 rfl ⟨d,.ref (la kd q.2.1),rfl,by rw[<-D7.val _ m1];exact DGet.k (k:=Sum.inr q.2.1) d10,.inl ⟨rfl,_,SqL.of l10⟩,ex1 rfl ⟨_,B8 rfl rfl ⟨l10,?_,?_⟩⟩⟩⟩⟩
    ·rw[List.length_map,sizeLine_eq]
     have:=(hlen _ hl200 q.2.1).2
     omega
    refine hD1 _ _ ⟨⟨_,_,rfl⟩,fun b o e hb=>?_,fun m hm=>?_,fun m hm=>?_⟩
    ·rw[B6 (hb.2 _ m1),B6 (hb.1 _ m2)]
     exact h1 b o e hb
    ·rw[B6 (dif m hm _ m1),C1 hq,y9]
     by_cases e:q.2.2=m
     ·rw[<-e,A9,if_pos rfl,List.map_append];rfl
     ·rw[if_neg e,List.append_nil,B6 (fun z=>e (D5.inj _ hm _ m2 z).symm)]
      exact h2 m hm
    ·rw[C1 hq,Db]
     by_cases e:q.2.1=m
     ·rw[<-e,A9,if_pos rfl,List.map_append];rfl
     ·rw[if_neg e,List.append_nil,B6 (fun z=>e (D7.inj _ hm _ m1 z).symm),B6 (dif _ m2 _ hm).symm]
      exact h3 m hm
  ·rintro σ H9 ⟨_,h1,h2,h3⟩
   have hlq:(E8 qs).length=qs.length:=by unfold E8;rw[List.length_map]
   rw[hlq,List.take_length]at h2 h3
   refine k ns qs H9 p1 w1 p2 w2 (fun b o e hb=>?_) ⟨⟨ndn,by rw[p1.length_eq];exact hN3,w1,fun q hq=>⟨p1.mem_iff.mpr (hO1 q (p2.mem_iff.mp hq)).1,p1.mem_iff.mpr (hO1 q (p2.mem_iff.mp hq)).2⟩,(p2.map _).nodup_iff.mpr hO2,by rw[p2.length_eq];exact hO3,w2⟩,dx,l1,l2,c,d,kc,kd,h1 _ _ x8 xdif,h1 _ _ f8 (old4 f4 nx1.symm),h1 _ _ g8 (old4 e4 nx2.symm),fun q hm=>h1 _ _ (pin8 q hm) (old4 (pin4 q hm) (T9 (pin4 q hm) x4 (by intro z;cases z))),h1 _ _ c8 cdif,h1 _ _ d8 ddif,fun n hn=>⟨_,D5.val n hn,h2 n hn⟩,fun n hn=>⟨_,D7.val n hn,h3 n hn⟩⟩
   have hb':b≠x:=fun z=>hb (by simp[z])
   exact h1 _ _ (kall b o e hb) (odif e hb')
end
theorem WebAt.same{C:Addr}{H H':Hp}{x:Addr}{ns:List Str}{qs:List PA2}(h:WebAt C H x ns qs)(s:Same H H'):WebAt C H' x ns qs:=by
 obtain⟨ok,dx,a,b,c,d,kc,kd,e1,e2,e3,e4,e5,e6,e7,e8⟩:=h
 exact⟨ok,dx,a,b,c,d,kc,kd,s _ _ e1,s _ _ e2,s _ _ e3,E6 s e4,s _ _ e5,s _ _ e6,fun n hn=>let⟨l,v,e⟩:=e7 n hn;⟨l,v,s _ _ e⟩,fun n hn=>let⟨l,v,e⟩:=e8 n hn;⟨l,v,s _ _ e⟩⟩
section
variable{P:Program}{w:World}{K:PySem.W.Frag}{mg:Str->Option Value}{base:Heap}
theorem m8:FnScope ["self"] ["self"] (B7 s_Web_all_names):=⟨rfl,rfl,rfl,by decide +kernel,rfl,by decide +kernel,by decide +kernel⟩
noncomputable def J0(C:Addr):Sp:=fun vs H Q _=>∃(x:Addr) (ns:List Str) (qs:List PA2),vs = [.ref x]/\WebAt C H x ns qs/\∀l,H l=none->Q (.ref l) (upd H l (.lst (ns.map V.str)))
theorem F0(T:Tx K mg):FnOk P w K mg base CX0 1 T.mWeb_all_names.f T.mWeb_all_names.fd ["self"] (J0 T.CWeb):=by
 refine T.mWeb_all_names.F.ok m8 (fun vs H Q E h=>?_) (fun cdv A outer s H vs Q E hr h=>?_)
 ·obtain⟨x,ns,qs,rfl,_⟩:=h
  rfl
 ·obtain⟨x,ns,qs,rfl,⟨ok,dx,a,b,c,d,kc,kd,e1,e2,e3,e4,e5,e6,e7,e8⟩,k⟩:=h
  refine⟨_,(B3 (C0 (Hm (Gz K) T.b_list U3 (A8 (peF K (pv 0)) B0)))),?_⟩
  exact⟨_,rfl,x,T.CWeb,dx,_,_,rfl,e1,T.clWeb,T.nWeb_names,rfl,a,_,rfl,.inl (SqL.of e2),k⟩
theorem l7:FnScope ["self", "name"] ["self", "name"] (B7 s_Web_check_has):=⟨rfl,rfl,rfl,by decide +kernel,rfl,by decide +kernel,by decide +kernel⟩
noncomputable def Q7(C:Addr):Sp:=fun vs H Q _=>∃(x:Addr) (n:Str) (ns:List Str) (qs:List PA2),vs = [.ref x,.str n]/\WebAt C H x ns qs/\n∈ns/\Q .non H
theorem P8(T:Tx K mg):FnOk P w K mg base CX0 1 T.mWeb_check_has.f T.mWeb_check_has.fd ["self", "name"] (Q7 T.CWeb):=by
 refine T.mWeb_check_has.F.ok l7 (fun vs H Q E h=>?_) (fun cdv A outer s H vs Q E hr h=>?_)
 ·obtain⟨x,n,ns,qs,rfl,_⟩:=h
  rfl
 ·obtain⟨x,n,ns,qs,rfl,⟨ok,dx,a,b,c,d,kc,kd,e1,e2,e3,e4,e5,e6,e7,e8⟩,hn,k⟩:=h
  refine⟨_,(B3 (J8 (C4 (X3 K) (pv 1) (peF K (pv 0)) rfl) (B3 Ce) D9)),?_⟩
  refine ex1 rfl (ex1 rfl ⟨x,T.CWeb,dx,_,ex1 rfl ⟨e1,T.clWeb,T.nWeb_names,rfl,O8 (.inl (SqL.of e2)) ⟨_,rfl,?_⟩⟩⟩)
  rw[decide_eq_true hn]
  exact S6 k
theorem Cn:FnScope ["self", "name"] ["self", "name"] (B7 s_Web_struck):=⟨rfl,rfl,rfl,by decide +kernel,rfl,by decide +kernel,by decide +kernel⟩
noncomputable def Ea(C:Addr):Sp:=fun vs H Q _=>∃(x:Addr) (n:Str) (ns:List Str) (qs:List PA2),vs = [.ref x,.str n]/\WebAt C H x ns qs/\n∈ns/\∀l,H l=none->Q (.ref l) (upd H l (.lst ((C3 qs n).map V.str)))
theorem Cp(T:Tx K mg):FnOk P w K mg base CX0 2 T.mWeb_struck.f T.mWeb_struck.fd ["self", "name"] (Ea T.CWeb):=by
 have G_Web_check_has:FnOk P w K mg base CX0 1 T.mWeb_check_has.f T.mWeb_check_has.fd ["self", "name"] (Q7 T.CWeb):=P8 T
 refine T.mWeb_struck.F.ok Cn (fun vs H Q E h=>?_) (fun cdv A outer s H vs Q E hr h=>?_)
 ·obtain⟨x,n,ns,qs,rfl,_⟩:=h
  rfl
 ·obtain⟨x,n,ns,qs,rfl,hW,hn,k⟩:=h
  have hu:=Ew hr
  obtain⟨ok,dx,a,b,c,d,kc,kd,e1,e2,e3,e4,e5,e6,e7,e8⟩:=id hW
  refine⟨_,(B2 (G6 (c9 (pv 0) T.clWeb T.mWeb_check_has.m G_Web_check_has (hr.mono (by decide)) T.mWeb_check_has.b .nil Y7 (A8 (pv 1) B0)))
   (B3 (C0 (Hm (Gz K) T.b_list U3 (A8 (V1 hu (peF K (pv 0)) (pv 1) (fun _ _=>rfl)) B0))))),?_⟩
  refine ex1 rfl ⟨x,dx,ex1 rfl ⟨e1,rfl,ex1 rfl ⟨x,n,ns,qs,rfl,hW,hn,?_⟩⟩⟩
  obtain⟨l,v,e⟩:=e8 n hn
  exact⟨_,rfl,x,T.CWeb,dx,_,_,rfl,e1,T.clWeb,T.nWeb_struck_by_name,rfl,_,rfl,d,_,rfl,by rw[<-v];exact DGet.k (k:=Sum.inr n) e6,l,_,rfl,.inl (SqL.of e),k⟩
theorem Ah:FnScope ["self", "name"] ["self", "name"] (B7 s_Web_strikers):=⟨rfl,rfl,rfl,by decide +kernel,rfl,by decide +kernel,by decide +kernel⟩
noncomputable def P3(C:Addr):Sp:=fun vs H Q _=>∃(x:Addr) (n:Str) (ns:List Str) (qs:List PA2),vs = [.ref x,.str n]/\WebAt C H x ns qs/\n∈ns/\∀l,H l=none->Q (.ref l) (upd H l (.lst ((B4 qs n).map V.str)))
theorem M8(T:Tx K mg):FnOk P w K mg base CX0 2 T.mWeb_strikers.f T.mWeb_strikers.fd ["self", "name"] (P3 T.CWeb):=by
 have G_Web_check_has:FnOk P w K mg base CX0 1 T.mWeb_check_has.f T.mWeb_check_has.fd ["self", "name"] (Q7 T.CWeb):=P8 T
 refine T.mWeb_strikers.F.ok Ah (fun vs H Q E h=>?_) (fun cdv A outer s H vs Q E hr h=>?_)
 ·obtain⟨x,n,ns,qs,rfl,_⟩:=h
  rfl
 ·obtain⟨x,n,ns,qs,rfl,hW,hn,k⟩:=h
  have hu:=Ew hr
  obtain⟨ok,dx,a,b,c,d,kc,kd,e1,e2,e3,e4,e5,e6,e7,e8⟩:=id hW
  refine⟨_,(B2 (G6 (c9 (pv 0) T.clWeb T.mWeb_check_has.m G_Web_check_has (hr.mono (by decide)) T.mWeb_check_has.b .nil Y7 (A8 (pv 1) B0)))
   (B3 (C0 (Hm (Gz K) T.b_list U3 (A8 (V1 hu (peF K (pv 0)) (pv 1) (fun _ _=>rfl)) B0))))),?_⟩
  refine ex1 rfl ⟨x,dx,ex1 rfl ⟨e1,rfl,ex1 rfl ⟨x,n,ns,qs,rfl,hW,hn,?_⟩⟩⟩
  obtain⟨l,v,e⟩:=e7 n hn
  exact⟨_,rfl,x,T.CWeb,dx,_,_,rfl,e1,T.clWeb,T.nWeb_strikers_by_name,rfl,_,rfl,c,_,rfl,by rw[<-v];exact DGet.k (k:=Sum.inr n) e5,l,_,rfl,.inl (SqL.of e),k⟩
end
theorem Pf{l:List Str}{k y:Str}:y∈Pj l k↔y∈l\/y=k:=by
 unfold Pj
 by_cases h:k∈l
 ·rw[if_pos h]
  exact⟨.inl,fun z=>z.elim id fun e=>e▸h⟩
 ·rw[if_neg h,List.mem_append,List.mem_singleton]
theorem Ss{l:List Str}{k:Str}(nd:l.Nodup):(Pj l k).Nodup:=by
 unfold Pj
 by_cases h:k∈l
 ·rw[if_pos h];exact nd
 ·rw[if_neg h];exact Lr nd h
theorem Pa(l:List Str)(k:Str):(Pj l k).length<=l.length+1:=by
 unfold Pj
 split
 ·omega
 ·rw[List.length_append];simp
theorem Lc{w:World}{J:It}{a D:Addr}{ys:List Str}{H0 H:Hp}{n:Nat}{σ:St}{Q:St->Hp->Prop}{Sg:St->Prop}{i0:Nat}(as:AsSeq J (ys.map V.str) a H)(hσ:Sg σ)(hS:∀σ v,Sg σ->Sg (σ.set i0 (some v))/\(σ.set i0 (some v))[i0]?=some (some v)){l:List Str}(hD:H D=some (Dm w D l))(haD:a≠D)(nd:l.Nodup)(hl:l.length+ys.length<=4000)
  (hs:Same H0 H) (hD0:H0 D=none) (q:∀σ l' H',Sg σ->Same H0 H'->H' D=some (Dm w D l')->l'.Nodup->l'.length<=l.length+ys.length->(∀y,y∈l'↔y∈l\/y∈ys)->Q σ H') :
  Aq (K7 i0) De (Ff w D (Hc i0)) J σ H Q:=by
 refine J4 as (fun i σ H1=>Sg σ/\Same H0 H1/\(∀o,H a=some o->H1 a=some o)/\∃l',H1 D=some (Dm w D l')/\l'.Nodup/\l'.length<=l.length+i/\∀y,y∈l'↔y∈l\/y∈ys.take i)
  ⟨hσ,hs,fun _ e=>e,l,hD,nd,Nat.le_refl _,fun y=>by simp⟩ (fun i σ H1 _ ⟨_,_,k,_⟩=>k) ?_ ?_
 ·rintro i σ H1 x N hx ⟨hσ1,s1,ka,l',e1,n1,l1,m1⟩ hN
  rw[List.getElem?_map]at hx
  cases hy:ys[i]? with
  | none=>rw[hy]at hx;cases hx
  | some y =>
   rw[hy]at hx
   cases hx
   have hi:=(List.getElem?_eq_some_iff.mp hy).1
   refine R0 ?_
   refine⟨_,(hS σ _ hσ1).2,l',y,rfl,e1,by omega,hN _ _ ⟨(hS σ _ hσ1).1,s1.upd hD0,fun o e=>?_,Pj l' y,A9,Ss n1,?_,fun z=>?_⟩⟩
   ·rw[B6 haD];exact ka o e
   ·have:=Pa l' y
    omega
   ·rw[Pf,m1,C1 hy,List.mem_append,List.mem_singleton,or_assoc]
 ·rintro σ H1 ⟨hσ1,s1,ka,l',e1,n1,l1,m1⟩
  rw[List.length_map]at l1 m1
  rw[List.take_length]at m1
  exact q σ l' H1 hσ1 s1 e1 n1 l1 m1
theorem mem_struckOf{qs:List PA2}{n y:Str}:y∈C3 qs n↔∃q∈qs,q.2.1=n/\q.2.2=y:=by
 unfold C3
 rw[List.mem_map]
 constructor
 ·rintro⟨q,hq,e⟩
  obtain⟨h1,h2⟩:=List.mem_filter.mp hq
  exact⟨q,h1,of_decide_eq_true h2,e⟩
 ·rintro⟨q,h1,h2,h3⟩
  exact⟨q,List.mem_filter.mpr ⟨h1,decide_eq_true h2⟩,h3⟩
theorem mem_strikersOf{qs:List PA2}{n y:Str}:y∈B4 qs n↔∃q∈qs,q.2.2=n/\q.2.1=y:=by
 unfold B4
 rw[List.mem_map]
 constructor
 ·rintro⟨q,hq,e⟩
  obtain⟨h1,h2⟩:=List.mem_filter.mp hq
  exact⟨q,h1,of_decide_eq_true h2,e⟩
 ·rintro⟨q,h1,h2,h3⟩
  exact⟨q,List.mem_filter.mpr ⟨h1,decide_eq_true h2⟩,h3⟩
theorem Dy(qs:List PA2)(n:Str):(C3 qs n).length<=qs.length:=by
 unfold C3
 rw[List.length_map]
 exact List.length_filter_le ..
theorem S9(qs:List PA2)(n:Str):(B4 qs n).length<=qs.length:=by
 unfold B4
 rw[List.length_map]
 exact List.length_filter_le ..
section
variable{P:Program}{w:World}{K:PySem.W.Frag}{mg:Str->Option Value}{base:Heap}
theorem n6:FnScope ["web", "some"] ["web", "some"] (B7 s_struck_by_any):=⟨rfl,rfl,rfl,by decide +kernel,rfl,by decide +kernel,by decide +kernel⟩
noncomputable def j0(K:PySem.W.Frag)(C:Addr)(f:List PA2->Str->List Str):Sp:=fun vs H Q _=>∃(x a:Addr) (ss ns:List Str) (qs:List PA2),vs = [.ref x,.ref a]/\WebAt C H x ns qs/\Sqs K H a (ss.map V.str)/\(∀n∈ss,n∈ns) /\
 ∀l (hs:List Str) H',H l=none->Same H H'->H' l=some (.lst (hs.map V.str))->(∀y,y∈hs↔∃n∈ss,y∈f qs n)->hs.Pairwise leS->hs.Nodup->hs.length<=100->Q (.ref l) H'
theorem G0(T:Tx K mg):FnOk P w K mg base CX0 3 T.struck_by_any.f T.struck_by_any.fd ["web", "some"] (j0 K T.CWeb C3):=by
 have G_Web_struck:FnOk P w K mg base CX0 2 T.mWeb_struck.f T.mWeb_struck.fd ["self", "name"] (Ea T.CWeb):=Cp T
 refine T.struck_by_any.F.ok n6 (fun vs H Q E h=>?_) (fun cdv A outer s H vs Q E hr h=>?_)
 ·obtain⟨x,a,ss,ns,qs,rfl,_⟩:=h
  rfl
 ·obtain⟨x,a,ss,ns,qs,rfl,hW,hS,hM,k⟩:=h
  have hu:=Ew hr
  obtain⟨ok,dx,a1,b,c,d,kc,kd,e1,_⟩:=id hW
  have hsub:∀l:List Str,l.Nodup->(∀y∈l,∃n∈ss,y∈C3 qs n)->l.length<=100:=fun l nd h=>by
   refine Nat.le_trans (nd.length_le_of_subset fun y hy=>?_) ok.len
   obtain⟨n,_,hy'⟩:=h y hy
   obtain⟨q,hq,_,e⟩:=mem_struckOf.mp hy'
   rw[<-e]
   exact(ok.mem q hq).2
  refine⟨_,(B3 (C0 (D6 (Ix w) T.b_sorted K3 (A8 (Wq w (N':=["name", "other", "web"]) (cap:=[none,none,some 0]) (cl:=[("web",_)]) (K2 ⟨⟨rfl,rfl,rfl,rfl⟩,trivial⟩ ⟨rfl,trivial⟩) (piS K (pv 1)) (fun _ _ _ _=>by exact⟨(pgC 0),E9,(piL K (c9 (pv 2) T.clWeb T.mWeb_struck.m G_Web_struck (hr.mono (by decide)) T.mWeb_struck.b .nil Y7 (A8 (pv 0) B0))),(pgC 1),E9,(pv 1)⟩)) B0)))),?_⟩
  dsimp only[Me,Oy,K7,Ro,tCB,X7,Hk]
  refine o8 (by rfl) hS ?_
  intro J as D hD
  refine J4 as (fun i σ H1=>(∃v0 v1,σ = [v0,v1,some (.ref x)])/\Same H H1/\∃l,H1 D=some (Dm w D l)/\l.Nodup/\∀y,y∈l↔∃n∈ss.take i,y∈C3 qs n)
   ⟨⟨_,_,rfl⟩,Same.new hD,[],A9,List.nodup_nil,fun y=>by simp⟩ (fun i σ H1 _ ⟨_,s1,_⟩=>s1.at a) ?_ ?_
  ·rintro i σ H1 v N hx ⟨⟨v0,v1,rfl⟩,s1,l,e2,n2,m2⟩ hN
   rw[List.getElem?_map]at hx
   cases hy:ss[i]? with
   | none=>rw[hy]at hx;cases hx
   | some n =>
    rw[hy]at hx
    cases hx
    have hn:n∈ns:=hM n (List.mem_of_getElem? hy)
    have hl100:l.length<=100:=hsub l n2 fun y hy=>by
     obtain⟨m,hm,h⟩:=(m2 y).mp hy
     exact⟨m,List.mem_of_mem_take hm,h⟩
    refine R0 ?_
    refine ex1 rfl ⟨x,dx,ex1 rfl ⟨s1 _ _ e1,rfl,ex1 rfl ⟨x,n,ns,qs,rfl,hW.same s1,hn,fun p hp=>?_⟩⟩⟩
    have npD:D≠p:=B1 e2 hp
    refine⟨p,rfl,⟨_,SqL.of A9⟩,Lc (H0:=H) (n:=0) (asL (SqL.of A9)) (Sg:=fun σ=>∃v0 v1,σ = [v0,v1,some (.ref x)]) ⟨_,_,rfl⟩ (fun σ v ⟨v0,v1,e⟩=>by rw[e];exact⟨⟨_,_,rfl⟩,rfl⟩) (by rw[B6 npD];exact e2) npD.symm n2 ?_ (s1.trans (Same.new hp)) hD ?_⟩
    ·have:=Dy qs n
     have:=ok.lenq
     omega
    ·rintro σ l' H2 hσ s2 e3 n3 _ m3
     refine hN _ _ ⟨hσ,s2,l',e3,n3,fun y=>?_⟩
     rw[m3,m2,C1 hy]
     constructor
     ·rintro(⟨m,hm,h⟩ | h)
      ·exact⟨m,List.mem_append_left _ hm,h⟩
      ·exact⟨n,List.mem_append_right _ (List.mem_singleton.mpr rfl),h⟩
     ·rintro⟨m,hm,h⟩
      rcases List.mem_append.mp hm with z | z
      ·exact .inl ⟨m,z,h⟩
      ·rw[List.mem_singleton.mp z]at h;exact .inr h
  ·rintro σ H1 ⟨_,s1,l,e2,n2,m2⟩
   rw[List.length_map,List.take_length]at m2
   refine⟨D,l,rfl,e2,fun p hs hp pm srt=>?_⟩
   have s2:Same H (upd H1 p (.lst (hs.map V.str))):=s1.trans (Same.new hp)
   exact k p hs _ (s1.free hp) s2 A9 (fun y=>by rw[pm.mem_iff];exact m2 y) srt (pm.nodup_iff.mpr n2) (by rw[pm.length_eq];exact hsub l n2 fun y hy=>(m2 y).mp hy)
end
noncomputable def Y4(qs:List PA2)(a b:Str):Prop:=∃q∈qs,q.2.1=a/\q.2.2=b
theorem strk_struck{qs:List PA2}{a b:Str}:b∈C3 qs a↔Y4 qs a b:=mem_struckOf
instance(qs:List PA2)(a b:Str):Decidable (Y4 qs a b):=inferInstanceAs (Decidable (∃q∈qs,q.2.1=a/\q.2.2=b))
noncomputable def S8(qs:List PA2)(ss:List Str):Bool:=ss.all fun n=>decide (¬∃m∈ss,Y4 qs m n)
noncomputable def Cm(K:PySem.W.Frag)(C:Addr)(f:List Str->List PA2->List Str->Bool):Sp:=fun vs H Q _=>∃(x a:Addr) (ss ns:List Str) (qs:List PA2),vs = [.ref x,.ref a]/\WebAt C H x ns qs/\Sqs K H a (ss.map V.str)/\(∀n∈ss,n∈ns)/\ss.length<=100 /\
 ∀H',Same H H'->Q (.bl (f ns qs ss)) H'
noncomputable def O0(K:PySem.W.Frag)(C:Addr)(f:List Str->List PA2->List Str->Prop):Sp:=fun vs H Q _=>∃(x a:Addr) (ss ns:List Str) (qs:List PA2),vs = [.ref x,.ref a]/\WebAt C H x ns qs/\Sqs K H a (ss.map V.str)/\(∀n∈ss,n∈ns)/\ss.length<=100 /\
 ∀(b:Bool) H',(b=true↔f ns qs ss)->Same H H'->Q (.bl b) H'
noncomputable def Q0(qs:List PA2)(ss:List Str):Prop:=∀m∈ss,∀n∈ss,¬Y4 qs m n
noncomputable def Bx(qs:List PA2)(ss:List Str):Prop:=∀x,∀n∈ss,Y4 qs x n->∃m∈ss,Y4 qs m x
theorem quietB_iff{qs:List PA2}{ss:List Str}:S8 qs ss=true↔Q0 qs ss:=by
 unfold S8 Q0
 rw[List.all_eq_true]
 constructor
 ·intro h m hm n hn hs
  exact of_decide_eq_true (h n hn) ⟨m,hm,hs⟩
 ·intro h n hn
  refine decide_eq_true ?_
  rintro⟨m,hm,hs⟩
  exact h m hm n hn hs
theorem strk_strikers{qs:List PA2}{a b:Str}:a∈B4 qs b↔Y4 qs a b:=by
 unfold B4 Y4
 rw[List.mem_map]
 constructor
 ·rintro⟨q,hq,rfl⟩
  obtain⟨h1,h2⟩:=List.mem_filter.mp hq
  exact⟨q,h1,rfl,of_decide_eq_true h2⟩
 ·rintro⟨q,hq,rfl,rfl⟩
  exact⟨q,List.mem_filter.mpr ⟨hq,decide_eq_true rfl⟩,rfl⟩
section
variable{P:Program}{w:World}{K:PySem.W.Frag}{mg:Str->Option Value}{base:Heap}
theorem t6:FnScope ["web", "some", "hit"] ["web", "some"] (B7 s_is_quiet):=⟨rfl,rfl,rfl,by decide +kernel,rfl,by decide +kernel,by decide +kernel⟩
theorem T7(T:Tx K mg):FnOk P w K mg base CX0 4 T.is_quiet.f T.is_quiet.fd ["web", "some"] (Cm K T.CWeb fun _=>S8):=by
 have G_struck_by_any:FnOk P w K mg base CX0 3 T.struck_by_any.f T.struck_by_any.fd ["web", "some"] (j0 K T.CWeb C3):=G0 T
 have sc:=t6
 refine T.is_quiet.F.ok t6 (fun vs H Q E h=>?_) (fun cdv A outer s H vs Q E hr h=>?_)
 ·obtain⟨x,a,ss,ns,qs,rfl,_⟩:=h
  rfl
 ·obtain⟨x,a,ss,ns,qs,rfl,hW,hS,hM,hl,k⟩:=h
  refine⟨_,(B2 (C6 (i:=2) sc.nd rfl (by first | exact Or.inl rfl | exact Or.inr rfl) (C5 T.struck_by_any G_struck_by_any (hr.mono (by decide)) (A8 (pv 0) (A8 (pv 1) B0))))
   (B3 (C0 (D6 (T0 K) T.b_all T6 (A8 (Q9 (N':=["name", "hit"]) (cap:=[none,some 2]) (cl:=[("hit",_)]) (K2 ⟨⟨rfl,rfl,rfl,rfl⟩,trivial⟩ ⟨rfl,trivial⟩) rfl (piS K (pv 1)) (fun _ _ _ _=>by exact⟨(pgC 0),E9,(C9 (X3 K) (pv 0) (pv 1) rfl)⟩)) B0))))),?_⟩
  refine ex1 rfl (ex1 rfl (Kd (a:=x) (b:=a) (c:=ss) (d:=ns) (e:=qs) rfl hW hS hM fun l hs H1 hl0 s1 e1 m1 _ _ _=>?_))
  dsimp only[Me,Oy,K7,Ro,tCB,X7,Hk]
  refine o8 (by rfl) ((s1.at a).seq hS) ?_
  intro J as D hD
  refine J4 as (fun i σ H2=>(∃v0,σ = [v0,some (.ref l)])/\Same H1 H2/\H2 D=some (.lst ((ss.take i).map fun n=>V.bl (!decide (n∈hs)))))
   ⟨⟨_,rfl⟩,Same.new hD,A9⟩ (fun i σ H1 _ ⟨_,s1,_⟩=>s1.at a) ?_ ?_
  ·rintro i σ H2 v N hx ⟨⟨v0,rfl⟩,s2,e2⟩ hN
   rw[List.getElem?_map]at hx
   cases hy:ss[i]? with
   | none=>rw[hy]at hx;cases hx
   | some n =>
    rw[hy]at hx
    cases hx
    refine R0 ?_
    refine ex1 rfl (ex1 rfl (O8 (.inl (SqL.of (s2 _ _ e1))) ⟨_,e2,?_,hN _ _ ⟨⟨_,rfl⟩,s2.upd hD,?_⟩⟩))
    ·rw[List.length_map,List.length_take,sizeLine_eq];omega
    ·rw[A9,C1 hy,List.map_append];rfl
  ·rintro σ H2 ⟨_,s2,e2⟩
   rw[List.length_map,List.take_length]at e2
   refine⟨D,ss.map fun n=>!decide (n∈hs),rfl,SqL.of (by rw[e2,List.map_map];rfl),?_⟩
   have e:(ss.map fun n=>!decide (n∈hs)).all id=S8 qs ss:=by
    unfold S8
    rw[List.all_map]
    congr 1
    funext n
    show(!decide (n∈hs))=decide (¬∃m∈ss,Y4 qs m n)
    have:n∈hs↔∃m∈ss,Y4 qs m n:=by
     rw[m1]
     exact⟨fun⟨m,h1,h2⟩=>⟨m,h1,strk_struck.mp h2⟩,fun⟨m,h1,h2⟩=>⟨m,h1,strk_struck.mpr h2⟩⟩
    rw[decide_not]
    congr 1
    exact decide_eq_decide.mpr this
   rw[e]
   exact k _ (s1.trans s2)
theorem X9:FnScope ["web", "some"] ["web", "some"] (B7 s_strikers_of_any):=⟨rfl,rfl,rfl,by decide +kernel,rfl,by decide +kernel,by decide +kernel⟩
theorem W9(T:Tx K mg):FnOk P w K mg base CX0 3 T.strikers_of_any.f T.strikers_of_any.fd ["web", "some"] (j0 K T.CWeb B4):=by
 have G_Web_strikers:FnOk P w K mg base CX0 2 T.mWeb_strikers.f T.mWeb_strikers.fd ["self", "name"] (P3 T.CWeb):=M8 T
 refine T.strikers_of_any.F.ok X9 (fun vs H Q E h=>?_) (fun cdv A outer s H vs Q E hr h=>?_)
 ·obtain⟨x,a,ss,ns,qs,rfl,_⟩:=h
  rfl
 ·obtain⟨x,a,ss,ns,qs,rfl,hW,hS,hM,k⟩:=h
  have hu:=Ew hr
  obtain⟨ok,dx,a1,b,c,d,kc,kd,e1,_⟩:=id hW
  have hsub:∀l:List Str,l.Nodup->(∀y∈l,∃n∈ss,y∈B4 qs n)->l.length<=100:=fun l nd h=>by
   refine Nat.le_trans (nd.length_le_of_subset fun y hy=>?_) ok.len
   obtain⟨n,_,hy'⟩:=h y hy
   obtain⟨q,hq,_,e⟩:=mem_strikersOf.mp hy'
   rw[<-e]
   exact(ok.mem q hq).1
  refine⟨_,(B3 (C0 (D6 (Ix w) T.b_sorted K3 (A8 (Wq w (N':=["name", "striker", "web"]) (cap:=[none,none,some 0]) (cl:=[("web",_)]) (K2 ⟨⟨rfl,rfl,rfl,rfl⟩,trivial⟩ ⟨rfl,trivial⟩) (piS K (pv 1)) (fun _ _ _ _=>by exact⟨(pgC 0),E9,(piL K (c9 (pv 2) T.clWeb T.mWeb_strikers.m G_Web_strikers (hr.mono (by decide)) T.mWeb_strikers.b .nil Y7 (A8 (pv 0) B0))),(pgC 1),E9,(pv 1)⟩)) B0)))),?_⟩
  dsimp only[Me,Oy,K7,Ro,tCB,X7,Hk]
  refine o8 (by rfl) hS ?_
  intro J as D hD
  refine J4 as (fun i σ H1=>(∃v0 v1,σ = [v0,v1,some (.ref x)])/\Same H H1/\∃l,H1 D=some (Dm w D l)/\l.Nodup/\∀y,y∈l↔∃n∈ss.take i,y∈B4 qs n)
   ⟨⟨_,_,rfl⟩,Same.new hD,[],A9,List.nodup_nil,fun y=>by simp⟩ (fun i σ H1 _ ⟨_,s1,_⟩=>s1.at a) ?_ ?_
  ·rintro i σ H1 v N hx ⟨⟨v0,v1,rfl⟩,s1,l,e2,n2,m2⟩ hN
   rw[List.getElem?_map]at hx
   cases hy:ss[i]? with
   | none=>rw[hy]at hx;cases hx
   | some n =>
    rw[hy]at hx
    cases hx
    have hn:n∈ns:=hM n (List.mem_of_getElem? hy)
    have hl100:l.length<=100:=hsub l n2 fun y hy=>by
     obtain⟨m,hm,h⟩:=(m2 y).mp hy
     exact⟨m,List.mem_of_mem_take hm,h⟩
    refine R0 ?_
    refine ex1 rfl ⟨x,dx,ex1 rfl ⟨s1 _ _ e1,rfl,ex1 rfl ⟨x,n,ns,qs,rfl,hW.same s1,hn,fun p hp=>?_⟩⟩⟩
    have npD:D≠p:=B1 e2 hp
    refine⟨p,rfl,⟨_,SqL.of A9⟩,Lc (H0:=H) (n:=0) (asL (SqL.of A9)) (Sg:=fun σ=>∃v0 v1,σ = [v0,v1,some (.ref x)]) ⟨_,_,rfl⟩ (fun σ v ⟨v0,v1,e⟩=>by rw[e];exact⟨⟨_,_,rfl⟩,rfl⟩) (by rw[B6 npD];exact e2) npD.symm n2 ?_ (s1.trans (Same.new hp)) hD ?_⟩
    ·have:=S9 qs n
     have:=ok.lenq
     omega
    ·rintro σ l' H2 hσ s2 e3 n3 _ m3
     refine hN _ _ ⟨hσ,s2,l',e3,n3,fun y=>?_⟩
     rw[m3,m2,C1 hy]
     constructor
     ·rintro(⟨m,hm,h⟩ | h)
      ·exact⟨m,List.mem_append_left _ hm,h⟩
      ·exact⟨n,List.mem_append_right _ (List.mem_singleton.mpr rfl),h⟩
     ·rintro⟨m,hm,h⟩
      rcases List.mem_append.mp hm with z | z
      ·exact .inl ⟨m,z,h⟩
      ·rw[List.mem_singleton.mp z]at h;exact .inr h
  ·rintro σ H1 ⟨_,s1,l,e2,n2,m2⟩
   rw[List.length_map,List.take_length]at m2
   refine⟨D,l,rfl,e2,fun p hs hp pm srt=>?_⟩
   have s2:Same H (upd H1 p (.lst (hs.map V.str))):=s1.trans (Same.new hp)
   exact k p hs _ (s1.free hp) s2 A9 (fun y=>by rw[pm.mem_iff];exact m2 y) srt (pm.nodup_iff.mpr n2) (by rw[pm.length_eq];exact hsub l n2 fun y hy=>(m2 y).mp hy)
theorem R8:FnScope ["web", "some", "hit"] ["web", "some"] (B7 s_strikes_back):=⟨rfl,rfl,rfl,by decide +kernel,rfl,by decide +kernel,by decide +kernel⟩
theorem Q5(T:Tx K mg):FnOk P w K mg base CX0 4 T.strikes_back.f T.strikes_back.fd ["web", "some"] (O0 K T.CWeb fun _=>Bx):=by
 have G_struck_by_any:FnOk P w K mg base CX0 3 T.struck_by_any.f T.struck_by_any.fd ["web", "some"] (j0 K T.CWeb C3):=G0 T
 have G_strikers_of_any:FnOk P w K mg base CX0 3 T.strikers_of_any.f T.strikers_of_any.fd ["web", "some"] (j0 K T.CWeb B4):=W9 T
 have sc:=R8
 refine T.strikes_back.F.ok R8 (fun vs H Q E h=>?_) (fun cdv A outer s H vs Q E hr h=>?_)
 ·obtain⟨x,a,ss,ns,qs,rfl,_⟩:=h
  rfl
 ·obtain⟨x,a,ss,ns,qs,rfl,hW,hS,hM,hl,k⟩:=h
  refine⟨_,(B2 (C6 (i:=2) sc.nd rfl (by first | exact Or.inl rfl | exact Or.inr rfl) (C5 T.struck_by_any G_struck_by_any (hr.mono (by decide)) (A8 (pv 0) (A8 (pv 1) B0))))
   (B3 (C0 (D6 (T0 K) T.b_all T6 (A8 (Q9 (N':=["name", "hit"]) (cap:=[none,some 2]) (cl:=[("hit",_)]) (K2 ⟨⟨rfl,rfl,rfl,rfl⟩,trivial⟩ ⟨rfl,trivial⟩) rfl (piL K (C5 T.strikers_of_any G_strikers_of_any (hr.mono (by decide)) (A8 (pv 0) (A8 (pv 1) B0)))) (fun _ _ _ _=>by exact⟨(pgC 0),E9,(C9 (V3 K) (pv 0) (pv 1) rfl)⟩)) B0))))),?_⟩
  refine ex1 rfl (ex1 rfl (Kd (a:=x) (b:=a) (c:=ss) (d:=ns) (e:=qs) rfl hW hS hM fun l hs H1 hl0 s1 e1 m1 _ _ _=>?_))
  dsimp only[Me,Oy,K7,Ro,tCB,X7,Hk]
  refine ex1 rfl (ex1 rfl (Kd (a:=x) (b:=a) (c:=ss) (d:=ns) (e:=qs) rfl (hW.same s1) ((s1.at a).seq hS) hM fun l2 gs H2 hl2 s2 e2 m2 _ _ len2=>?_))
  have hit2:=s2 _ _ e1
  refine⟨l2,rfl,⟨_,SqL.of e2⟩,fun D hD=>?_⟩
  refine J4 (asL (K:=K) (SqL.of e2)) (fun i σ H3=>(∃v0,σ = [v0,some (.ref l)])/\Same H2 H3/\H3 D=some (.lst ((gs.take i).map fun n=>V.bl (decide (n∈hs)))))
   ⟨⟨_,rfl⟩,Same.new hD,A9⟩ (fun i σ H1 _ ⟨_,s1,_⟩=>s1.at l2) ?_ ?_
  ·rintro i σ H3 v N hx ⟨⟨v0,rfl⟩,s3,e3⟩ hN
   rw[List.getElem?_map]at hx
   cases hy:gs[i]? with
   | none=>rw[hy]at hx;cases hx
   | some n =>
    rw[hy]at hx
    cases hx
    refine R0 ?_
    refine ex1 rfl (ex1 rfl (I0 (.inl (SqL.of (s3 _ _ hit2))) ⟨_,e3,?_,hN _ _ ⟨⟨_,rfl⟩,s3.upd hD,?_⟩⟩))
    ·rw[List.length_map,List.length_take,sizeLine_eq];omega
    ·rw[A9,C1 hy,List.map_append];rfl
  ·rintro σ H3 ⟨_,s3,e3⟩
   rw[List.length_map,List.take_length]at e3
   refine⟨D,gs.map fun n=>decide (n∈hs),rfl,SqL.of (by rw[e3,List.map_map];rfl),?_⟩
   refine k _ _ ?_ ((s1.trans s2).trans s3)
   rw[List.all_map,List.all_eq_true]
   constructor
   ·intro h y n hn hy
    have:=of_decide_eq_true (h y ((m2 y).mpr ⟨n,hn,strk_strikers.mpr hy⟩))
    obtain⟨m,hm,h'⟩:=(m1 y).mp this
    exact⟨m,hm,strk_struck.mp h'⟩
   ·intro h y hy
    obtain⟨n,hn,hy⟩:=(m2 y).mp hy
    obtain⟨m,hm,h'⟩:=h y n hn (strk_strikers.mp hy)
    exact decide_eq_true ((m1 y).mpr ⟨m,hm,strk_struck.mpr h'⟩)
end
noncomputable def Ij(qs:List PA2)(ss:List Str):Prop:=Q0 qs ss/\Bx qs ss
section
variable{P:Program}{w:World}{K:PySem.W.Frag}{mg:Str->Option Value}{base:Heap}
theorem Fy:FnScope ["web", "some"] ["web", "some"] (B7 s_stands):=⟨rfl,rfl,rfl,by decide +kernel,rfl,by decide +kernel,by decide +kernel⟩
theorem Fm(T:Tx K mg):FnOk P w K mg base CX0 5 T.stands.f T.stands.fd ["web", "some"] (O0 K T.CWeb fun _=>Ij):=by
 have G_is_quiet:FnOk P w K mg base CX0 4 T.is_quiet.f T.is_quiet.fd ["web", "some"] (Cm K T.CWeb fun _=>S8):=T7 T
 have G_strikes_back:FnOk P w K mg base CX0 4 T.strikes_back.f T.strikes_back.fd ["web", "some"] (O0 K T.CWeb fun _=>Bx):=Q5 T
 have sc:=Fy
 refine T.stands.F.ok Fy (fun vs H Q E h=>?_) (fun cdv A outer s H vs Q E hr h=>?_)
 ·obtain⟨x,a,ss,ns,qs,rfl,_⟩:=h
  rfl
 ·obtain⟨x,a,ss,ns,qs,rfl,hW,hS,hM,hl,k⟩:=h
  refine⟨_,(B3 (C0 (K6 (C5 T.is_quiet G_is_quiet (hr.mono (by decide)) (A8 (pv 0) (A8 (pv 1) B0))) (K1 (C5 T.strikes_back G_strikes_back (hr.mono (by decide)) (A8 (pv 0) (A8 (pv 1) B0))))))),?_⟩
  refine ex1 rfl (ex1 rfl (Pk (a:=x) (b:=a) (c:=ss) (d:=ns) (e:=qs) rfl hW hS hM hl fun H1 s1=>⟨S8 qs ss,rfl,?_⟩))
  refine R1 (fun c=>?_) (fun c=>?_)
  ·refine ex1 rfl (ex1 rfl (Pk (a:=x) (b:=a) (c:=ss) (d:=ns) (e:=qs) rfl (hW.same s1) ((s1.at a).seq hS) hM hl fun b H2 hb s2=>k b H2 ?_ (s1.trans s2)))
   exact hb.trans ⟨fun h=>⟨quietB_iff.mp c,h⟩,fun h=>h.2⟩
  ·exact k false H1 ⟨fun z=>(by cases z),fun h=>absurd (quietB_iff.mpr h.1) c⟩ s1
theorem Bd:FnScope ["_law_cell", "_law_k", "_law_m"] ["_law_cell", "_law_k"] (B7 s_law_mix):=⟨rfl,rfl,rfl,by decide +kernel,rfl,by decide +kernel,by decide +kernel⟩
noncomputable def Rl:Sp:=fun vs H Q _=>∃(cell k:Int),vs = [.int cell,.int k]/\0<=k/\k<=2000000/\∀m:Int,0<=m->m<1999999973->Q (.int m) H
theorem Kl(T:Tx K mg):FnOk P w K mg base CX0 1 T.law_mix.f T.law_mix.fd ["_law_cell", "_law_k"] Rl:=by
 have sc:=Bd
 refine T.law_mix.F.ok Bd (fun vs H Q E h=>?_) (fun cdv A outer s H vs Q E hr h=>?_)
 ·obtain⟨c,k,rfl,_⟩:=h
  rfl
 ·obtain⟨cell,k,rfl,k0,k1,q⟩:=h
  refine⟨_,(B2 (C6 (i:=2) sc.nd rfl (by first | exact Or.inl rfl | exact Or.inr rfl) (E4 Bk (E4 Bs (E4 l5 (E4 l5 (E4 Bk (pv 0) B5) (E4 Bs (E4 Bs (pv 1) (pv 1)) B5)) B5) B5) B5))
   (B3 (C0 (E4 Bk (E4 Bs (pv 2) (pv 2)) B5)))),?_⟩
  refine ex1 rfl (B8 rfl rfl ⟨(show(0:Int)<2147483629 by decide),ex1 rfl (ex1 rfl (B8 rfl rfl ⟨.inl ⟨by omega,by omega⟩,B8 rfl rfl ⟨.inr ⟨by decide,by decide⟩,B8 rfl rfl (B8 rfl rfl (B8 rfl rfl ⟨.inr ⟨by decide,by decide⟩,B8 rfl rfl ⟨(show(0:Int)<2147483647 by decide),?_⟩⟩))⟩⟩))⟩)
  generalize hm:(cell % 2147483629+k*k*7919+11)*48271 % 2147483647=m
  have h1:0<=m:=by rw[<-hm];exact Int.emod_nonneg _ (by decide)
  have h2:m<2147483647:=by rw[<-hm];exact Int.emod_lt_of_pos _ (by decide)
  exact⟨_,rfl,_,rfl,_,_,rfl,rfl,.inl ⟨by omega,by omega⟩,_,_,rfl,rfl,(show(0:Int)<1999999973 by decide),q _ (Int.emod_nonneg _ (by decide)) (Int.emod_lt_of_pos _ (by decide))⟩
noncomputable def LeftAt(H:Hp)(p:Addr)(c:Int):Prop:=∃a b:Int,H p=some (.lst [.int a,.int b,.int c])/\0<=c
theorem LeftAt.isS{H:Hp}{p:Addr}{c:Int}(h:LeftAt H p c):(H p).isSome=true:=by
 obtain⟨_,_,e,_⟩:=h
 rw[e];rfl
theorem LeftAt.get{H:Hp}{p:Addr}{c:Int}(h:LeftAt H p c):H p=some ((H p).get h.isS):=(Option.some_get _).symm
theorem LeftAt.cast{H:Hp}{p:Addr}{c c':Int}(h:LeftAt H p c)(e:c=c'):LeftAt H p c':=e▸h
theorem LeftAt.upd{H:Hp}{p a:Addr}{c:Int}{o:HO}(h:LeftAt H p c)(n:p≠a):LeftAt (L2.upd H a o) p c:=by
 obtain⟨x,y,e,z⟩:=h
 exact⟨x,y,by rw[B6 n];exact e,z⟩
theorem LeftAt.same{H H':Hp}{p:Addr}{c:Int}(h:LeftAt H p c)(s:Same H H'):LeftAt H' p c:=by
 obtain⟨x,y,e,z⟩:=h
 exact⟨x,y,s _ _ e,z⟩
theorem zAq(c:Bool):-(2^64) <(if c=true then(1:Int)else 0)/\(if c=true then(1:Int)else 0)<2^64:=by cases c<;>exact⟨by decide,by decide⟩
theorem u9:FnScope ["_law_script", "_law_k", "_law_cell"] ["_law_script", "_law_k"] (B7 s_law_left):=⟨rfl,rfl,rfl,by decide +kernel,rfl,by decide +kernel,by decide +kernel⟩
noncomputable def Ox(K:PySem.W.Frag):Sp:=fun vs H Q _=>∃(p:Addr) (xs:List Int) (k:Nat),vs = [.ref p,.int (k:Int)]/\SqL K H p (xs.map V.int)/\k<=1000/\∀l H',H l=none->Same H H'->LeftAt H' l 0->Q (.ref l) H'
theorem Hi(T:Tx K mg):FnOk P w K mg base CX0 1 T.law_left.f T.law_left.fd ["_law_script", "_law_k"] (Ox K):=by
 have sc:=u9
 refine T.law_left.F.ok u9 (fun vs H Q E h=>?_) (fun cdv A outer s H vs Q E hr h=>?_)
 ·obtain⟨p,xs,k,rfl,_⟩:=h
  rfl
 ·obtain⟨p,xs,k,rfl,hS,hk,q⟩:=h
  refine⟨_,(B2 (C6 (i:=2) sc.nd rfl (by first | exact Or.inl rfl | exact Or.inr rfl) (Rb (C4 Zk (pv 1) (D6 (J9 K) T.b_len J3 (A8 (pv 0) B0)) (E3 _)) (G9 (ixL K) (pv 0) (pv 1) (fun _ _=>rfl)) B5))
   (B3 (C0 (J1 (A8 (E4 Bs (D6 Jp T.b_abs Ri (A8 (pv 2) B0)) (Hm Mo T.b_int Rj (A8 (C9 Zl (D6 Jp T.b_abs Ri (A8 (pv 2) B0)) (E4 Wb B5 B5) (E3 _)) B0))) (A8 (E4 l5 (pv 2) (E4 Bs B5 (pv 1))) (A8 B5 B0))))))),?_⟩
  refine ex1 rfl (ex1 rfl (B8 (a:=p) rfl (.inl hS) (B8 rfl rfl (ex1 rfl ?_))))
  have at1:decide ((k:Int) <((xs.map V.int).length:Int))=true->∃c:Int,atI (xs.map V.int) (k:Int)=some (.int c):=fun c1=>by
   have c1:(k:Int) <((xs.map V.int).length:Int):=of_decide_eq_true c1
   rw[List.length_map]at c1
   have hk':xs[k]?=some (xs[k]'(by omega)):=List.getElem?_eq_getElem (by omega)
   exact⟨_,U6 (by rw[List.getElem?_map,hk'];rfl)⟩
  refine R1 (fun c1=>?_) (fun c1=>?_)
  ·obtain⟨c,hc⟩:=at1 c1
   refine ex1 rfl (ex1 rfl ⟨p,_,B8 rfl rfl ⟨hS,hc,?_⟩⟩)
   (repeat first | refine⟨_,rfl,?_⟩ | refine⟨_,_,rfl,rfl,?_⟩)
   refine⟨⟨by decide,by decide,by decide⟩,?_⟩
   (repeat first | refine⟨_,rfl,?_⟩ | refine⟨_,_,rfl,rfl,?_⟩)
   refine .inr ⟨_,rfl,?_⟩
   (repeat first | refine⟨_,rfl,?_⟩ | refine⟨_,_,rfl,rfl,?_⟩)
   refine⟨.inr ?_,?_⟩
   ·exact zAq _
   (repeat first | refine⟨_,rfl,?_⟩ | refine⟨_,_,rfl,rfl,?_⟩)
   refine⟨.inl ⟨by decide,by decide⟩,?_⟩
   (repeat first | refine⟨_,rfl,?_⟩ | refine⟨_,_,rfl,rfl,?_⟩)
   exact⟨by show 3<=sizeLine;decide,fun l hl=>q l _ hl (Same.new hl) ⟨_,_,A9,by decide⟩⟩
  ·(repeat first | refine⟨_,rfl,?_⟩ | refine⟨_,_,rfl,rfl,?_⟩)
   refine⟨⟨by decide,by decide,by decide⟩,?_⟩
   (repeat first | refine⟨_,rfl,?_⟩ | refine⟨_,_,rfl,rfl,?_⟩)
   refine .inr ⟨_,rfl,?_⟩
   (repeat first | refine⟨_,rfl,?_⟩ | refine⟨_,_,rfl,rfl,?_⟩)
   refine⟨.inr ?_,?_⟩
   ·exact zAq _
   (repeat first | refine⟨_,rfl,?_⟩ | refine⟨_,_,rfl,rfl,?_⟩)
   refine⟨.inl ⟨by decide,by decide⟩,?_⟩
   (repeat first | refine⟨_,rfl,?_⟩ | refine⟨_,_,rfl,rfl,?_⟩)
   exact⟨by show 3<=sizeLine;decide,fun l hl=>q l _ hl (Same.new hl) ⟨_,_,A9,by decide⟩⟩
theorem Aa:FnScope ["_law_left_here", "_law_many", "_law_digit"] ["_law_left_here", "_law_many"] (B7 s_law_pick):=⟨rfl,rfl,rfl,by decide +kernel,rfl,by decide +kernel,by decide +kernel⟩
noncomputable def Y8:Sp:=fun vs H Q _=>∃(p:Addr) (c many:Int),vs = [.ref p,.int many]/\LeftAt H p c/\c<=1000000/\0<many/\many<=1000000 /\
 ∀(d:Nat) H',(d:Int)<many->Sm [p] H H'->LeftAt H' p (c+1)->Q (.int (d:Int)) H'
theorem M3(T:Tx K mg):FnOk P w K mg base CX0 2 T.law_pick.f T.law_pick.fd ["_law_left_here", "_law_many"] Y8:=by
 have G_law_mix:FnOk P w K mg base CX0 1 T.law_mix.f T.law_mix.fd ["_law_cell", "_law_k"] Rl:=Kl T
 have sc:=Aa
 refine T.law_pick.F.ok Aa (fun vs H Q E h=>?_) (fun cdv A outer s H vs Q E hr h=>?_)
 ·obtain⟨p,c,m,rfl,_⟩:=h
  rfl
 ·obtain⟨p,c,many,rfl,⟨a,b,e,c0⟩,c1,m0,m1,q⟩:=h
  refine⟨_,(B2 (Bq (E4 l5 (G9 (ixL K) (pv 0) B5 (fun _ _=>rfl)) B5) (Io (pv 0) B5 o0))
   (B2 (J8 (C4 Yh (G9 (ixL K) (pv 0) B5 (fun _ _=>rfl)) B5 (E3 _)) (B2 (C6 (i:=2) sc.nd rfl (by first | exact Or.inl rfl | exact Or.inr rfl) (E4 Bk (G9 (ixL K) (pv 0) B5 (fun _ _=>rfl)) (pv 1)))
   (B2 (Bq (E4 Hl (G9 (ixL K) (pv 0) B5 (fun _ _=>rfl)) (pv 1)) (Io (pv 0) B5 o0))
   (B3 (C0 (pv 2))))) D9)
   (B3 (C0 (E4 Bk (E4 Hl (C5 T.law_mix G_law_mix (hr.mono (by decide)) (A8 (C5 T.law_mix G_law_mix (hr.mono (by decide)) (A8 (G9 (ixL K) (pv 0) B5 (fun _ _=>rfl)) (A8 (G9 (ixL K) (pv 0) B5 (fun _ _=>rfl)) B0))) (A8 (E4 l5 (G9 (ixL K) (pv 0) B5 (fun _ _=>rfl)) B5) B0))) B5) (pv 1)))))),?_⟩
  have nn:∀d:Int,0<=d->d<many->∀a' b',Q (.int d) (upd (upd H p (.lst [.int a,.int b,.int (c+1)])) p (.lst [.int a',.int b',.int (c+1)]))/\Q (.int d) (upd H p (.lst [.int a',.int b',.int (c+1)])):=fun d h0 h1 a' b'=>by
   obtain⟨n,rfl⟩:=Int.eq_ofNat_of_zero_le h0
   exact⟨q n _ h1 (((Sm.refl _ _).upd (by simp)).upd (by simp)) ⟨a',b',A9,by omega⟩,q n _ h1 ((Sm.refl _ _).upd (by simp)) ⟨a',b',A9,by omega⟩⟩
  refine ex1 rfl ⟨p,_,B8 rfl rfl ⟨SqL.of e,rfl,B8 rfl rfl (ex1 rfl ⟨p,_,_,2,rfl,rfl,e,rfl,?_⟩)⟩⟩
  refine ex1 rfl ⟨p,_,B8 rfl rfl ⟨SqL.of A9,rfl,B8 rfl rfl (ex1 rfl ?_)⟩⟩
  refine R1 (fun h1=>?_) (fun h1=>?_)
  ·have h1:(0:Int)<a:=of_decide_eq_true h1
   refine ex1 rfl ⟨p,_,B8 rfl rfl ⟨SqL.of A9,rfl,ex1 rfl (B8 rfl rfl ⟨m0,?_⟩)⟩⟩
   refine ex1 rfl ⟨p,_,B8 rfl rfl ⟨SqL.of A9,rfl,ex1 rfl (B8 rfl rfl ⟨⟨m0,by omega⟩,ex1 rfl ⟨p,_,_,0,rfl,rfl,A9,rfl,?_⟩⟩)⟩⟩
   exact⟨_,rfl,(nn _ (Int.emod_nonneg _ (by omega)) (Int.emod_lt_of_pos _ m0) _ _).1⟩
  ·refine ex1 rfl ⟨p,_,B8 rfl rfl ⟨SqL.of A9,rfl,ex1 rfl ⟨p,_,B8 rfl rfl ⟨SqL.of A9,rfl,_,ex1 rfl ⟨by omega,by omega,fun m2 h2 h3=>?_⟩⟩⟩⟩⟩
   refine ex1 rfl ⟨p,_,B8 rfl rfl ⟨SqL.of A9,rfl,B8 rfl rfl ⟨_,ex1 rfl ⟨by omega,by omega,fun m3 h4 h5=>?_⟩⟩⟩⟩
   refine B8 rfl rfl ⟨⟨by decide,by decide⟩,ex1 rfl (B8 rfl rfl ⟨m0,?_⟩)⟩
   exact(nn _ (Int.emod_nonneg _ (by omega)) (Int.emod_lt_of_pos _ m0) _ _).2
end
theorem six{d n:Nat}(h:d<n):seqIndex? (d:Int) n=some d:=by
 unfold seqIndex?
 simp
 omega
theorem erase_perm{α:Type}{l:List α}{i:Nat}{x:α}(h:l[i]?=some x):(x::l.eraseIdx i).Perm l:=ST.erase_perm h
theorem Eo{α β:Type}(f:α->β):∀(l:List α) (i:Nat),(l.map f).eraseIdx i =(l.eraseIdx i).map f
 | [],_=>rfl
 | _::_,0=>rfl
 | a::l,i+1=>by
  show f a ::(l.map f).eraseIdx i=f a ::(l.eraseIdx i).map f
  rw[Eo f l i]
theorem Qf{all rest got:List Str}(pm:(rest++got).Perm all)(h1:∀x∈all,I9 x=true)(h2:all.Nodup)(h3:all.length<=100):b7 got:=by
 refine⟨fun x hx=>h1 x (pm.mem_iff.mp (List.mem_append_right _ hx)),?_,?_⟩
 ·exact(List.nodup_append.mp (pm.nodup_iff.mpr h2)).2.1
 ·have:=pm.length_eq
  rw[List.length_append]at this
  omega
theorem Pi{all rest got:List Str}{d:Nat}{x:Str}(pm:(rest++got).Perm all)(h:rest[d]?=some x):(rest.eraseIdx d ++(got ++ [x])).Perm all:=by
 refine List.Perm.trans ?_ pm
 rw[<-List.append_assoc]
 refine List.perm_append_comm.trans ?_
 rw[<-List.append_assoc]
 exact(erase_perm h).append_right got
theorem Sm1{p b:Addr}{H H':Hp}{o:HO}(h:Sm [p] H H')(e:H b=some o)(n:b≠p):H' b=some o:=h b o e fun z=>n (List.mem_singleton.mp z)
section
variable{P:Program}{w:World}{K:PySem.W.Frag}{mg:Str->Option Value}{base:Heap}
noncomputable def all20:List Str:=["b", "aa", "zebra", "c", "quartzes", "ab", "m", "knows", "d", "mm", "likes", "z", "a", "ba", "abcdefgh", "y", "zz", "e", "x", "f"]
noncomputable abbrev txt20:Str := "b aa zebra c quartzes ab m knows d mm likes z a ba abcdefgh y zz e x f"
theorem Th:Builtin.Str.partsBetween txt20 (Builtin.Str.occurrences txt20 " " 0 txt20.length (txt20.length+1)) (" ":Str).length=all20:=by decide +kernel
theorem all20_ok:(∀x∈all20,I9 x=true)/\all20.Nodup:=⟨by decide +kernel,by decide +kernel⟩
theorem Hu:∃all:List Str,all.length=20/\(∀x∈all,I9 x=true)/\all.Nodup/\∀(Q:VK) (H:Hp),(∀l,H l=none->Q (.ref l) (upd H l (.lst (all.map V.str))))->Rx (.str txt20) [.str " "] H Q :=
 ⟨all20,rfl,all20_ok.1,all20_ok.2,fun Q H h=>⟨txt20, " ",all20,rfl,rfl,by decide +kernel,by decide +kernel,by decide +kernel,by decide +kernel,Th,by decide +kernel,h⟩⟩
theorem j7:FnScope ["_law_left_here", "_law_many", "_law_some_here", "_law_names_here", "_law_k"] ["_law_left_here", "_law_many"] (B7 s_law_names):=⟨rfl,rfl,rfl,by decide +kernel,rfl,by decide +kernel,by decide +kernel⟩
noncomputable def Je:Sp:=fun vs H Q _=>∃(p:Addr) (c:Int) (many:Nat),vs = [.ref p,.int (many:Int)]/\LeftAt H p c/\c<=900000/\many<=20 /\
 ∀l (ss:List Str) H',H l=none->Sm [p] H H'->H' l=some (.lst (ss.map V.str))->ss.length=many->b7 ss->LeftAt H' p (c+many)->Q (.ref l) H'
set_option maxHeartbeats 2000000 in
theorem Fc(T:Tx K mg):FnOk P w K mg base CX0 3 T.law_names.f T.law_names.fd ["_law_left_here", "_law_many"] Je:=by
 have G_law_pick:FnOk P w K mg base CX0 2 T.law_pick.f T.law_pick.fd ["_law_left_here", "_law_many"] Y8:=M3 T
 have sc:=j7
 refine T.law_names.F.ok j7 (fun vs H Q E h=>?_) (fun cdv A outer s H vs Q E hr h=>?_)
 ·obtain⟨p,c,m,rfl,_⟩:=h
  rfl
 ·obtain⟨p,c,many,rfl,hL,c1,m1,q⟩:=h
  obtain⟨a0,b0,e0,c0⟩:=id hL
  refine⟨_,(B2 (C6 (i:=2) sc.nd rfl (by first | exact Or.inl rfl | exact Or.inr rfl) (Jh K PySem.F.plainAttrs_str PySem.F.slot_str_split PySem.F.type_str_split Pc O7 (A8 O7 B0)))
   (B2 (C6 (i:=3) sc.nd rfl (by first | exact Or.inl rfl | exact Or.inr rfl) (J1 B0))
   (B2 (M9 PassesOwn.never rfl (Sz T.b_range (A8 (pv 1) B0)) (E1 (i:=4) sc.nd rfl (by first | exact Or.inl rfl | exact Or.inr rfl))
   (B3 (G6 (Jh K PySem.F.plainAttrs_list PySem.F.slot_list_append PySem.F.type_list_append G8 (pv 3) (A8 (Jh K PySem.F.plainAttrs_list PySem.F.slot_list_pop PySem.F.type_list_pop Po (pv 2) (A8 (C5 T.law_pick G_law_pick (hr.mono (by decide)) (A8 (pv 0) (A8 (D6 (J9 K) T.b_len J3 (A8 (pv 2) B0)) B0))) B0)) B0)))))
   (B3 (C0 (pv 3)))))),?_⟩
  obtain⟨all,al,a1,a2,hspl⟩:=Hu
  refine⟨rfl,?_⟩
  dsimp only[X7,tC,Hk]
  refine hspl _ _ fun a ha=>?_
  refine⟨Nat.zero_le _,fun b hb=>?_⟩
  have hb':H b=none:=(Same.new ha).free hb
  have nab:a≠b:=B1 A9 hb
  have npa:p≠a:=B1 e0 ha
  have npb:p≠b:=B1 e0 hb'
  refine ex1 rfl (ex1 rfl ⟨by omega,by omega,?_⟩)
  rw[Int.toNat_natCast]
  refine K9 (fun i σ H1=>(∃v4,σ = [some (.ref p),some (.int (many:Int)),some (.ref a),some (.ref b),v4])/\Sm [p] H H1/\LeftAt H1 p (c+i)/\∃rest got:List Str,H1 a=some (.lst (rest.map V.str))/\H1 b=some (.lst (got.map V.str))/\(rest++got).Perm all/\got.length=i) ?_ ?_ ?_
  ·refine⟨⟨_,rfl⟩,((Same.new ha).trans (Same.new hb)).sm,((hL.cast (by omega)).upd npa).upd npb,all,[],by rw[B6 nab,A9],by rw[A9];rfl,by rw[List.append_nil],rfl⟩
  ·rintro i σ H1 hi ⟨⟨v4,rfl⟩,k1,L1,rest,got,ea,eb,pm,hg⟩ D1 hD1 _
   have hlen:rest.length=20-i:=by
    have:=pm.length_eq
    rw[List.length_append,hg,al]at this
    omega
   refine ex1 rfl ⟨.inl ⟨rfl,_,SqL.of eb⟩,ex1 rfl ⟨.inl ⟨rfl,_,SqL.of ea⟩,ex1 rfl (ex1 rfl (B8 (a:=a) rfl (.inl (SqL.of ea)) (U5 (a:=p) (b:=c+i) rfl L1 (by omega) ?_ ?_ fun d H2 hd k2 L2=>?_)))⟩⟩
   ·rw[List.length_map];omega
   ·rw[List.length_map];omega
   rw[List.length_map]at hd
   have hd':d<rest.length:=by omega
   have hx:rest[d]?=some rest[d]:=List.getElem?_eq_getElem hd'
   have ea2:=Sm1 k2 ea npa.symm
   have eb2:=Sm1 k2 eb npb.symm
   refine⟨a,_,_,d,.str rest[d],rfl,rfl,ea2,by omega,by omega,six (by rw[List.length_map];exact hd'),by rw[List.getElem?_map,hx];rfl,b,B8 rfl rfl ⟨by rw[B6 nab.symm];exact eb2,?_,?_⟩⟩
   ·rw[List.length_map,sizeLine_eq];omega
   refine hD1 _ _ ⟨⟨_,rfl⟩,?_,?_,rest.eraseIdx d,got ++ [rest[d]],?_,?_,Pi pm hx,by rw[List.length_append,hg];rfl⟩
   ·exact((k1.trans k2).updN ha).updN hb'
   ·exact((L2.cast (by omega)).upd npa).upd npb
   ·rw[B6 nab,A9,Eo]
   ·rw[A9,List.map_append];rfl
  ·rintro σ H1 ⟨⟨v4,rfl⟩,k1,L1,rest,got,ea,eb,pm,hg⟩
   exact⟨_,rfl,q b got H1 hb' k1 eb hg (Qf pm a1 a2 (by omega)) L1⟩
end
noncomputable def pd(k:Str×Str):PyData:=.tuple [.str k.1,.str k.2]
theorem O1{x:Str}(h:I9 x=true):PySem.PyData.strOk x=true:=by
 unfold I9 at h
 rw[Bool.and_eq_true]at h
 unfold PySem.PyData.strOk
 rw[<-Array.all_toList,List.all_eq_true]
 intro c hc
 have:=(List.all_eq_true.mp h.2) c hc
 unfold Tt at this
 rw[Bool.and_eq_true]at this
 have:=of_decide_eq_true this.2
 exact decide_eq_true (by omega)
theorem Gq{K:PySem.W.Frag}{H:Hp}{t:Addr}{k:Str×Str}(h:H t=some (.tup [.str k.1,.str k.2])):Rp K H (pd k) (.ref t):=by
 unfold pd
 simp only[Rp,Rps]
 exact⟨t,_,rfl,SqT.of h,_,_,rfl,rfl,_,_,rfl,rfl,rfl⟩
theorem Ek{K:PySem.W.Frag}{H:Hp}:∀{ps:List PA2},(∀q∈ps,D0 H q)->Rps K H (ps.map fun q=>pd q.2) (E8 ps)
 | [],_=>by simp[Rps,E8]
 | q::r,h=>by
  show Rps K H (pd q.2::r.map fun q=>pd q.2) (V.ref q.1::E8 r)
  simp only[Rps]
  exact⟨_,_,rfl,Gq (h q (List.mem_cons_self ..)),Ek fun z hz=>h z (List.mem_cons_of_mem _ hz)⟩
theorem Cf{K:PySem.W.Frag}{H:Hp}{l:Addr}{ps:List PA2}(hl:H l=some (.lst (E8 ps)))(h:∀q∈ps,D0 H q):Rp K H (.list (ps.map fun q=>pd q.2)) (.ref l):=by
 simp only[Rp]
 exact⟨l,_,rfl,SqL.of hl,Ek h⟩
theorem Wf(a b:Str×Str):PyData.eqv (pd a) (pd b)=decide (a=b):=by
 unfold pd
 rw[PyData.eqv,PyData.eqvAll,PyData.eqvAll,PyData.eqvAll,PyData.eqv,PyData.eqv]
 by_cases h1:a.1=b.1
 ·by_cases h2:a.2=b.2
  ·rw[decide_eq_true (Prod.ext h1 h2),h1,h2];simp
  ·rw[decide_eq_false fun z=>h2 (congrArg Prod.snd z)];simp[h2]
 ·rw[decide_eq_false fun z=>h1 (congrArg Prod.fst z)];simp[h1]
theorem t8(k:Str×Str):∀ps:List PA2,((ps.map fun q=>pd q.2).any fun z=>PyData.eqv z (pd k))=decide (k∈ps.map fun q=>q.2)
 | []=>rfl
 | q::r=>by
  rw[List.map_cons,List.any_cons,t8 k r,Wf,List.map_cons]
  by_cases e:q.2=k
  ·rw[decide_eq_true e,Bool.true_or,decide_eq_true (show k∈q.2::_ from by rw[<-e];exact List.mem_cons_self ..)]
  ·rw[decide_eq_false e,Bool.false_or]
   by_cases h:k∈r.map fun q=>q.2
   ·rw[decide_eq_true h,decide_eq_true (List.mem_cons_of_mem _ h)]
   ·rw[decide_eq_false h,decide_eq_false fun z=>(List.mem_cons.mp z).elim (fun z=>e z.symm) h]
theorem Ol{k:Str×Str}(h1:PySem.PyData.strOk k.1=true)(h2:PySem.PyData.strOk k.2=true):(pd k).canLay0=true:=by
 unfold pd
 simp[PyData.canLay0,PyData.canLayAll0,h1,h2]
theorem Cg:∀{ps:List PA2},(∀q∈ps,PySem.PyData.strOk q.2.1=true/\PySem.PyData.strOk q.2.2=true)->PyData.canLayAll0 (ps.map fun q=>pd q.2)=true
 | [],_=>rfl
 | q::r,h=>by
  rw[List.map_cons,PyData.canLayAll0,Ol (h q (List.mem_cons_self ..)).1 (h q (List.mem_cons_self ..)).2,Cg fun z hz=>h z (List.mem_cons_of_mem _ hz)]
  rfl
theorem Z0{K:PySem.W.Frag}{H:Hp}{t l:Addr}{k:Str×Str}{ps:List PA2}{Q:VK}(ht:H t=some (.tup [.str k.1,.str k.2]))(hl:H l=some (.lst (E8 ps)))(hp:∀q∈ps,D0 H q)
  (hk:PySem.PyData.strOk k.1=true/\PySem.PyData.strOk k.2=true) (hs:∀q∈ps,PySem.PyData.strOk q.2.1=true/\PySem.PyData.strOk q.2.2=true) (q:Q (.bl (!decide (k∈ps.map fun q=>q.2))) H):Uh K true (.ref t) (.ref l) H Q :=
 ⟨pd k,_,Gq ht,.inl (Cf hl hp),⟨Ol hk.1 hk.2,by simp[pd,PyData.depth,PyData.depthAll]⟩,Cg hs,by rw[if_pos rfl,t8];exact q⟩
structure FL(H:Hp)(l:Addr)(ps:List PA2)(ss:List Str):Prop where
 at_:H l=some (.lst (E8 ps))
 pin:∀q∈ps,D0 H q
 nm:∀q∈ps,q.2.1∈ss/\q.2.2∈ss
 nd:(ps.map fun q=>q.2).Nodup
theorem FL.sm{H H':Hp}{p l:Addr}{c:Int}{ps:List PA2}{ss:List Str}(h:FL H l ps ss)(L:LeftAt H p c)(n:l≠p)(s:Sm [p] H H'):FL H' l ps ss:=by
 obtain⟨x,y,e,_⟩:=L
 exact⟨Sm1 s h.at_ n,fun q hq=>Sm1 s (h.pin q hq) (T9 (h.pin q hq) e (by intro z;cases z)),h.nm,h.nd⟩
theorem FL.new{H:Hp}{l t:Addr}{o:HO}{ps:List PA2}{ss:List Str}(h:FL H l ps ss)(n:H t=none):FL (upd H t o) l ps ss :=
 ⟨by rw[B6 (B1 h.at_ n)];exact h.at_,fun q hq=>by unfold D0;rw[B6 (B1 (h.pin q hq) n)];exact h.pin q hq,h.nm,h.nd⟩
theorem FL.put{H:Hp}{l t:Addr}{ps:List PA2}{ss:List Str}{x y:Str}(h:FL H l ps ss)(k:Nat)(ht:H t=some (.tup [.str x,.str y]))(hx:x∈ss)(hy:y∈ss)(hn:(x,y)∉ps.map fun q=>q.2) :
  FL (upd H l (.lst ((E8 ps).take k++V.ref t ::(E8 ps).drop k))) l (ps.take k ++(t,x,y)::ps.drop k) ss:=by
 have pm:(ps.take k ++(t,x,y)::ps.drop k).Perm ((t,x,y)::ps):=by
  refine List.perm_middle.trans (List.Perm.cons _ ?_)
  rw[List.take_append_drop]
 have mm:∀q∈ps.take k ++(t,x,y)::ps.drop k,q =(t,x,y)\/q∈ps:=fun q hq=>List.mem_cons.mp (pm.mem_iff.mp hq)
 refine⟨?_,fun q hq=>?_,fun q hq=>?_,?_⟩
 ·rw[A9]
  unfold E8
  rw[List.map_append,List.map_take,List.map_cons,List.map_drop]
 ·unfold D0
  rcases mm q hq with rfl | z
  ·rw[B6 (T9 ht h.at_ (by intro z;cases z))];exact ht
  ·rw[B6 (T9 (h.pin q z) h.at_ (by intro z;cases z))];exact h.pin q z
 ·rcases mm q hq with rfl | z
  ·exact⟨hx,hy⟩
  ·exact h.nm q z
 ·rw[(pm.map _).nodup_iff]
  show((x,y)::ps.map fun q=>q.2).Nodup
  exact List.nodup_cons.mpr ⟨hn,h.nd⟩
theorem FL.app{H:Hp}{l t:Addr}{ps:List PA2}{ss:List Str}{x y:Str}(h:FL H l ps ss)(ht:H t=some (.tup [.str x,.str y]))(hx:x∈ss)(hy:y∈ss)(hn:(x,y)∉ps.map fun q=>q.2) :
  FL (upd H l (.lst (E8 ps ++ [V.ref t]))) l (ps ++ [(t,x,y)]) ss:=by
 have:=h.put ps.length ht hx hy hn
 have e:(E8 ps).length=ps.length:=by unfold E8;rw[List.length_map]
 rw[<-e,List.take_length,List.drop_length,e,List.take_length,List.drop_length]at this
 exact this
theorem Ic(ss:List Str):∀tt:List Str,(tt.flatMap fun a=>ss.map fun b=>(a,b)).length=tt.length*ss.length
 | []=>by simp
 | a::r=>by rw[List.flatMap_cons,List.length_append,List.length_map,Ic ss r,List.length_cons,Nat.succ_mul];omega
theorem FL.len{H:Hp}{l:Addr}{ps:List PA2}{ss:List Str}(h:FL H l ps ss):ps.length<=ss.length*ss.length:=by
 have:=h.nd.length_le_of_subset (l₂:=ss.flatMap fun a=>ss.map fun b=>(a,b)) (fun k hk=>by
  obtain⟨q,hq,rfl⟩:=List.mem_map.mp hk
  obtain⟨h1,h2⟩:=h.nm q hq
  exact List.mem_flatMap.mpr ⟨q.2.1,h1,List.mem_map.mpr ⟨q.2.2,h2,rfl⟩⟩)
 rw[Ic,List.length_map]at this
 exact this
section
variable{P:Program}{w:World}{K:PySem.W.Frag}{mg:Str->Option Value}{base:Heap}
theorem Tv(d1 d2 d:Nat)(h1:d1<3)(h2:d2<4)(h:d<8):∃n:Nat,n<=10/\atI [V.int (8 +(d1:Int)),V.int d2,V.int 4,V.int 5,V.int 6,V.int 7,V.int 5,V.int 6] (d:Int)=some (.int (n:Int)):=by
 suffices ∃n:Nat,n<=10/\[V.int (8 +(d1:Int)),V.int d2,V.int 4,V.int 5,V.int 6,V.int 7,V.int 5,V.int 6][d]?=some (.int (n:Int)) by
  obtain⟨n,h,e⟩:=this
  exact⟨n,h,U6 e⟩
 match d,h with
 | 0,_=>exact⟨8+d1,by omega,by show some (V.int _)=_;rw[Int.natCast_add];rfl⟩
 | 1,_=>exact⟨d2,by omega,rfl⟩
 | 2,_=>exact⟨4,by omega,rfl⟩
 | 3,_=>exact⟨5,by omega,rfl⟩
 | 4,_=>exact⟨6,by omega,rfl⟩
 | 5,_=>exact⟨7,by omega,rfl⟩
 | 6,_=>exact⟨5,by omega,rfl⟩
 | 7,_=>exact⟨6,by omega,rfl⟩
theorem y6:FnScope ["_law_left_here", "_law_way"] ["_law_left_here"] (B7 s_law_size):=⟨rfl,rfl,rfl,by decide +kernel,rfl,by decide +kernel,by decide +kernel⟩
noncomputable def Nv:Sp:=fun vs H Q _=>∃(p:Addr) (c:Int),vs = [.ref p]/\LeftAt H p c/\c<=900000 /\
 ∀(n:Nat) H',n<=10->Sm [p] H H'->LeftAt H' p (c+3)->Q (.int (n:Int)) H'
theorem He(T:Tx K mg):FnOk P w K mg base CX0 3 T.law_size.f T.law_size.fd ["_law_left_here"] Nv:=by
 have G_law_pick:FnOk P w K mg base CX0 2 T.law_pick.f T.law_pick.fd ["_law_left_here", "_law_many"] Y8:=M3 T
 have sc:=y6
 refine T.law_size.F.ok y6 (fun vs H Q E h=>?_) (fun cdv A outer s H vs Q E hr h=>?_)
 ·obtain⟨p,c,rfl,_⟩:=h
  rfl
 ·obtain⟨p,c,rfl,hL,c1,q⟩:=h
  refine⟨_,(B2 (C6 (i:=1) sc.nd rfl (by first | exact Or.inl rfl | exact Or.inr rfl) (C5 T.law_pick G_law_pick (hr.mono (by decide)) (A8 (pv 0) (A8 B5 B0))))
   (@B3 _ _ _ (@C0 _ _ _ _ (@G9 _ _ _ _ _ _ _ (ixL K) (@J1 _ _ _ _ (@A8 _ _ _ _ _ (E4 l5 B5 (C5 T.law_pick G_law_pick (hr.mono (by decide)) (A8 (pv 0) (A8 B5 B0)))) (@A8 _ _ _ _ _ (C5 T.law_pick G_law_pick (hr.mono (by decide)) (A8 (pv 0) (A8 B5 B0))) (@A8 _ _ _ _ _ B5 (@A8 _ _ _ _ _ B5 (@A8 _ _ _ _ _ B5 (@A8 _ _ _ _ _ B5 (@A8 _ _ _ _ _ B5 (@A8 _ _ _ _ _ B5 B0 (by rfl)) (by rfl)) (by rfl)) (by rfl)) (by rfl)) (by rfl)) (by rfl)) (by rfl))) (pv 1) (fun _ _=>rfl))))),?_⟩
  refine ex1 rfl (U5 (a:=p) rfl hL (by omega) (by decide) (by decide) fun d H1 hd k1 L1=>?_)
  refine ex1 rfl (U5 (a:=p) rfl L1 (by omega) (by decide) (by decide) fun d1 H2 hd1 k2 L2=>?_)
  refine B8 rfl rfl ?_
  refine ex1 rfl (U5 (a:=p) rfl L2 (by omega) (by decide) (by decide) fun d2 H3 hd2 k3 L3=>?_)
  refine⟨by show 8<=sizeLine;decide,fun l hl=>?_⟩
  obtain⟨n,hn,e⟩:=Tv d1 d2 d (by omega) (by omega) (by omega)
  have e3:=L3.get
  refine ex1 rfl ⟨l,_,B8 rfl rfl ⟨SqL.of A9,e,?_⟩⟩
  exact q n _ hn (((k1.trans k2).trans k3).new hl) ((L3.cast (by omega)).upd (B1 e3 hl))
theorem LeftAt.ne{H:Hp}{p n:Addr}{c:Int}{ss:List Str}(h:LeftAt H p c)(hn:H n=some (.lst (ss.map V.str))):n≠p:=by
 rintro rfl
 obtain⟨a,b,e,_⟩:=h
 rw[hn]at e
 cases ss with
 | nil=>cases e
 | cons x r=>cases e
theorem LeftAt.neP{H:Hp}{p n:Addr}{c:Int}{ss:List PA2}(h:LeftAt H p c)(hn:H n=some (.lst (E8 ss))):n≠p:=by
 rintro rfl
 obtain⟨a,b,e,_⟩:=h
 rw[hn]at e
 cases ss with
 | nil=>cases e
 | cons x r=>cases e
theorem Qq(d:Nat)(h:d<4):∃n:Nat,0<n/\n<=9/\atI [V.int 4,V.int 6,V.int 9,V.int 3] (d:Int)=some (.int (n:Int)):=by
 suffices ∃n:Nat,0<n/\n<=9/\[V.int 4,V.int 6,V.int 9,V.int 3][d]?=some (.int (n:Int)) by
  obtain⟨n,h1,h2,e⟩:=this
  exact⟨n,h1,h2,U6 e⟩
 match d,h with
 | 0,_=>exact⟨4,by omega,by omega,rfl⟩
 | 1,_=>exact⟨6,by omega,by omega,rfl⟩
 | 2,_=>exact⟨9,by omega,by omega,rfl⟩
 | 3,_=>exact⟨3,by omega,by omega,rfl⟩
theorem T5:FnScope ["_law_left_here", "_law_names_here", "_law_found", "_law_often", "_law_one", "_law_other"] ["_law_left_here", "_law_names_here"] (B7 s_law_strikes):=⟨rfl,rfl,rfl,by decide +kernel,rfl,by decide +kernel,by decide +kernel⟩
noncomputable def Bl(K:PySem.W.Frag):Sp:=fun vs H Q _=>∃(p n:Addr) (c:Int) (ss:List Str),vs = [.ref p,.ref n]/\LeftAt H p c/\c<=900000/\H n=some (.lst (ss.map V.str))/\b7 ss/\ss.length<=10 /\
 ∀l (ps:List PA2) c' H',H l=none->Sm [p] H H'->H' l=some (.lst (E8 ps))->(∀q∈ps,D0 H' q)->StrkOk ss ps->c'<=c+1000->LeftAt H' p c'->Q (.ref l) H'
noncomputable def SI(H:Hp)(p f:Addr)(ss:List Str)(b:Int)(H1:Hp):Prop:=Sm [p] H H1/\(∃c',c'<=b/\LeftAt H1 p c')/\∃ps,FL H1 f ps ss
set_option maxHeartbeats 4000000 in
theorem Ay(T:Tx K mg):FnOk P w K mg base CX0 3 T.law_strikes.f T.law_strikes.fd ["_law_left_here", "_law_names_here"] (Bl K):=by
 have G_law_pick:FnOk P w K mg base CX0 2 T.law_pick.f T.law_pick.fd ["_law_left_here", "_law_many"] Y8:=M3 T
 have sc:=T5
 refine T.law_strikes.F.ok T5 (fun vs H Q E h=>?_) (fun cdv A outer s H vs Q E hr h=>?_)
 ·obtain⟨p,n,c,ss,rfl,_⟩:=h
  rfl
 ·obtain⟨p,n,c,ss,rfl,hL,c1,hn,hN,hlen,q⟩:=h
  obtain⟨a0,b0,e0,c0⟩:=id hL
  refine⟨_,(B2 (C6 (i:=2) sc.nd rfl (by first | exact Or.inl rfl | exact Or.inr rfl) (J1 B0))
   (B2 (C6 (i:=3) sc.nd rfl (by first | exact Or.inl rfl | exact Or.inr rfl) (G9 (ixL K) (J1 (A8 B5 (A8 B5 (A8 B5 (A8 B5 B0))))) (C5 T.law_pick G_law_pick (hr.mono (by decide)) (A8 (pv 0) (A8 B5 B0))) (fun _ _=>rfl)))
   (B2 (M9 PassesOwn.never rfl (piL K (pv 1)) (E1 (i:=4) sc.nd rfl (by first | exact Or.inl rfl | exact Or.inr rfl))
   (B2 (M9 PassesOwn.never rfl (piL K (pv 1)) (E1 (i:=5) sc.nd rfl (by first | exact Or.inl rfl | exact Or.inr rfl))
   (B3 (J8 (PW.pt (i8 (C4 Ma (pv 4) (pv 5) (E3 _)) (i8 (C4 Q3 (C5 T.law_pick G_law_pick (hr.mono (by decide)) (A8 (pv 0) (A8 (pv 3) B0))) B5 (E3 _)) (f7 (C4 (Cr K hr.units) (O2 (A8 (pv 4) (A8 (pv 5) B0))) (pv 2) rfl))))) (B2 (G6 (Jh K PySem.F.plainAttrs_list PySem.F.slot_list_insert PySem.F.type_list_insert Mm (pv 2) (A8 (C5 T.law_pick G_law_pick (hr.mono (by decide)) (A8 (pv 0) (A8 (E4 l5 (D6 (J9 K) T.b_len J3 (A8 (pv 2) B0)) B5) B0))) (A8 (O2 (A8 (pv 4) (A8 (pv 5) B0))) B0))))
   (B3 (J8 (PW.pt (i8 (C4 Q3 (C5 T.law_pick G_law_pick (hr.mono (by decide)) (A8 (pv 0) (A8 B5 B0))) B5 (E3 _)) (f7 (C4 (Cr K hr.units) (O2 (A8 (pv 5) (A8 (pv 4) B0))) (pv 2) rfl)))) (B3 (G6 (Jh K PySem.F.plainAttrs_list PySem.F.slot_list_append PySem.F.type_list_append G8 (pv 2) (A8 (O2 (A8 (pv 5) (A8 (pv 4) B0))) B0)))) D9))) D9)))
   (B3 (J8 (PW.pt (i8 (C4 Q3 (C5 T.law_pick G_law_pick (hr.mono (by decide)) (A8 (pv 0) (A8 B5 B0))) B5 (E3 _)) (f7 (C4 (Cr K hr.units) (O2 (A8 (pv 4) (A8 (pv 4) B0))) (pv 2) rfl)))) (B3 (G6 (Jh K PySem.F.plainAttrs_list PySem.F.slot_list_append PySem.F.type_list_append G8 (pv 2) (A8 (O2 (A8 (pv 4) (A8 (pv 4) B0))) B0)))) D9))))
   (B3 (C0 (pv 2)))))),?_⟩
  refine⟨Nat.zero_le _,fun f hf=>?_⟩
  have npf:p≠f:=B1 e0 hf
  have nnf:n≠f:=B1 hn hf
  have nnp:n≠p:=hL.ne hn
  have nnD:n∉[p]:=by simpa using nnp
  have nm:∀x∈ss,PySem.PyData.strOk x=true:=fun x hx=>O1 (hN.1 x hx)
  refine⟨by show 4<=sizeLine;decide,fun t ht=>?_⟩
  have s1:Same H (upd (upd H f (.lst [])) t (.lst [.int 4,.int 6,.int 9,.int 3])):=(Same.new hf).trans (Same.new ht)
  have ef:(upd (upd H f (.lst [])) t (.lst [.int 4,.int 6,.int 9,.int 3])) f=some (.lst []):=by rw[B6 (B1 A9 ht),A9]
  refine ex1 rfl (U5 (a:=p) (b:=c) rfl (hL.same s1) (by omega) (by decide) (by decide) fun d H1 hd k1 L1=>?_)
  obtain⟨often,o1,o2,eo⟩:=Qq d (by omega)
  have hpt:p≠t:=B1 ((Same.new hf) _ _ e0) ht
  refine⟨t,_,B8 rfl rfl ⟨SqL.of (Sm1 k1 A9 hpt.symm),eo,?_⟩⟩
  have i0:SI H p f ss (c+1) H1:=⟨s1.sm.trans k1,⟨_,Int.le_refl _,L1⟩,[],Sm1 k1 ef npf.symm,by simp,by simp,by simp⟩
  have hseq:∀{H1 b},SI H p f ss b H1->SqL K H1 n (ss.map V.str):=fun h=>(h.1.at nnD).seqL (SqL.of hn)
  refine ex1 rfl ⟨n,rfl,⟨_,hseq i0⟩,?_⟩
  refine U2 (asL (K:=K) (SqL.of hn)) (fun i σ H1=>(∃v4 v5,σ = [some (.ref p),some (.ref n),some (.ref f),some (.int (often:Int)),v4,v5])/\SI H p f ss (c+1+31*i) H1) ?_ ?_ ?_ ?_
  ·exact⟨⟨_,_,rfl⟩,by simpa using i0⟩
  ·rintro i σ H1 hi ⟨_,h1⟩
   exact h1.1.at nnD
  ·rintro i σ H1 x hx ⟨⟨v4,v5,rfl⟩,h1⟩ D1 hD1 _
   rw[List.getElem?_map]at hx
   obtain⟨one,ho,rfl⟩:∃y,ss[i]?=some y/\V.str y=x:=by
    cases e:ss[i]? with
    | none=>rw[e]at hx;cases hx
    | some y=>rw[e]at hx;exact⟨y,rfl,by injection hx⟩
   have hone:one∈ss:=List.mem_of_getElem? ho
   have hi:i<ss.length:=(List.getElem?_eq_some_iff.mp ho).1
   refine ex1 rfl ⟨n,rfl,⟨_,hseq h1⟩,?_⟩
   refine U2 (asL (K:=K) (SqL.of hn)) (fun j σ H1=>(∃v5,σ = [some (.ref p),some (.ref n),some (.ref f),some (.int (often:Int)),some (.str one),v5])/\SI H p f ss (c+1+31*i+3*j) H1) ?_ ?_ ?_ ?_
   ·exact⟨⟨_,rfl⟩,by simpa using h1⟩
   ·rintro i σ H1 hi ⟨_,h1⟩
    exact h1.1.at nnD
   ·rintro j σ H1 x hx ⟨⟨v5,rfl⟩,h1⟩ D2 hD2 _
    rw[List.getElem?_map]at hx
    obtain⟨oth,ho,rfl⟩:∃y,ss[j]?=some y/\V.str y=x:=by
     cases e:ss[j]? with
     | none=>rw[e]at hx;cases hx
     | some y=>rw[e]at hx;exact⟨y,rfl,by injection hx⟩
    have hoth:oth∈ss:=List.mem_of_getElem? ho
    have hj:j<ss.length:=(List.getElem?_eq_some_iff.mp ho).1
    obtain⟨k1,⟨c',hc',L1⟩,ps,F1⟩:=h1
    have done:∀{H2 c2 ps2},Sm [p] H H2->c2<=c'+3->LeftAt H2 p c2->FL H2 f ps2 ss->SI H p f ss (c+1+31*i+3 *((j+1:Nat):Int)) H2:=fun{H2 c2 ps2} a b d e=>⟨a,⟨c2,by omega,d⟩,ps2,e⟩
    refine ex1 rfl (ex1 rfl ⟨rfl,ex1 rfl ?_⟩)
    refine R1 (fun h1=>?_) (fun h1=>S6 (hD2 _ _ ⟨⟨_,rfl⟩,done k1 (by omega) L1 F1⟩))
    refine ex1 rfl (ex1 rfl (U5 (a:=p) (b:=c') rfl L1 (by omega) (by omega) (by omega) fun d1 H2 hd1 k2 L2=>⟨rfl,_,rfl,?_⟩))
    have F2:=F1.sm L1 npf.symm k2
    refine R1 (fun h2=>?_) (fun h2=>S6 (hD2 _ _ ⟨⟨_,rfl⟩,done (k1.trans k2) (by omega) L2 F2⟩))
    refine ex1 rfl (ex1 rfl ⟨by show 2<=sizeLine;decide,fun t2 ht2=>?_⟩)
    have F3:=F2.new (o:=.tup [.str one,.str oth]) ht2
    have e2:=L2.get
    have L3:=L2.upd (o:=.tup [.str one,.str oth]) (B1 e2 ht2)
    have k3:=(k1.trans k2).new (o:=.tup [.str one,.str oth]) ht2
    refine ex1 rfl (Z0 (k:=(one,oth)) A9 F3.at_ F3.pin ⟨nm _ hone,nm _ hoth⟩ (fun q hq=>⟨nm _ (F3.nm q hq).1,nm _ (F3.nm q hq).2⟩) ⟨_,rfl,?_⟩)
    refine R1 (fun h3=>?_) (fun h3=>hD2 _ _ ⟨⟨_,rfl⟩,done k3 (by omega) L3 F3⟩)
    have h3':(one,oth)∉ps.map fun q=>q.2:=by simpa using h3
    have lps:=F3.len
    have lps':ps.length<=100:=Nat.le_trans lps (Nat.mul_le_mul hlen hlen)
    have rl:(E8 ps).length=ps.length:=by unfold E8;rw[List.length_map]
    refine ex1 rfl ⟨.inl ⟨rfl,_,SqL.of F3.at_⟩,ex1 rfl (ex1 rfl (B8 (a:=f) rfl (.inl (SqL.of F3.at_)) (B8 rfl rfl (U5 (a:=p) (b:=c'+1) rfl L3 (by omega) (by omega) (by omega) fun d2 H4 hd2 k4 L4=>?_))))⟩
    have F4:=F3.sm L3 npf.symm k4
    refine ex1 rfl (ex1 rfl ⟨by show 2<=sizeLine;decide,fun t3 ht3=>?_⟩)
    have F5:=F4.new (o:=.tup [.str one,.str oth]) ht3
    have e4:=L4.get
    have L5:=L4.upd (o:=.tup [.str one,.str oth]) (B1 e4 ht3)
    have k5:=(k3.trans k4).new (o:=.tup [.str one,.str oth]) ht3
    refine⟨f,_,_,d2,ex1 rfl ⟨rfl,rfl,F5.at_,by omega,by rw[sizeLine_eq];omega,?_⟩⟩
    have F6:=F5.put d2 A9 hone hoth h3'
    have L6:=L5.upd (o:=.lst ((E8 ps).take d2++V.ref t3 ::(E8 ps).drop d2)) npf
    have k6:=k5.updN (o:=.lst ((E8 ps).take d2++V.ref t3 ::(E8 ps).drop d2)) hf
    generalize hps:ps.take d2 ++(t3,one,oth)::ps.drop d2=ps' at F6
    refine ex1 rfl (U5 (a:=p) rfl L6 (by omega) (by decide) (by decide) fun d3 H7 hd3 k7 L7=>⟨rfl,_,rfl,?_⟩)
    have F7:=F6.sm L6 npf.symm k7
    refine R1 (fun h4=>?_) (fun h4=>S6 (hD2 _ _ ⟨⟨_,rfl⟩,done (k6.trans k7) (by omega) L7 F7⟩))
    refine ex1 rfl (ex1 rfl ⟨by show 2<=sizeLine;decide,fun t4 ht4=>?_⟩)
    have F8:=F7.new (o:=.tup [.str oth,.str one]) ht4
    have e7:=L7.get
    have L8:=L7.upd (o:=.tup [.str oth,.str one]) (B1 e7 ht4)
    have k8:=(k6.trans k7).new (o:=.tup [.str oth,.str one]) ht4
    refine ex1 rfl (Z0 (k:=(oth,one)) A9 F8.at_ F8.pin ⟨nm _ hoth,nm _ hone⟩ (fun q hq=>⟨nm _ (F8.nm q hq).1,nm _ (F8.nm q hq).2⟩) ⟨_,rfl,?_⟩)
    refine R1 (fun h5=>?_) (fun h5=>hD2 _ _ ⟨⟨_,rfl⟩,done k8 (by omega) L8 F8⟩)
    have h5':(oth,one)∉ps'.map fun q=>q.2:=by simpa using h5
    have lps:=F8.len
    have lps':ps'.length<=100:=Nat.le_trans lps (Nat.mul_le_mul hlen hlen)
    have rl:(E8 ps').length=ps'.length:=by unfold E8;rw[List.length_map]
    refine ex1 rfl ⟨.inl ⟨rfl,_,SqL.of F8.at_⟩,ex1 rfl (ex1 rfl ⟨by show 2<=sizeLine;decide,fun t5 ht5=>?_⟩)⟩
    have F9:=F8.new (o:=.tup [.str oth,.str one]) ht5
    have e8:=L8.get
    have L9:=L8.upd (o:=.tup [.str oth,.str one]) (B1 e8 ht5)
    have k9:=k8.new (o:=.tup [.str oth,.str one]) ht5
    refine⟨f,B8 rfl rfl ⟨F9.at_,by rw[sizeLine_eq];omega,hD2 _ _ ⟨⟨_,rfl⟩,done (k9.updN hf) (by omega) (L9.upd npf) (F9.app A9 hoth hone h5')⟩⟩⟩
   ·rintro σ H1 ⟨⟨v5,rfl⟩,k1,⟨c',hc',L1⟩,ps,F1⟩
    simp only[List.length_map]at hc'
    have done:∀{H2 c2 ps2},Sm [p] H H2->c2<=c'+1->LeftAt H2 p c2->FL H2 f ps2 ss->SI H p f ss (c+1+31 *((i+1:Nat):Int)) H2:=fun{H2 c2 ps2} a b d e=>⟨a,⟨c2,by omega,d⟩,ps2,e⟩
    refine ex1 rfl (U5 (a:=p) (b:=c') rfl L1 (by omega) (by decide) (by decide) fun d3 H7 hd3 k7 L7=>⟨rfl,_,rfl,?_⟩)
    have F7:=F1.sm L1 npf.symm k7
    refine R1 (fun h4=>?_) (fun h4=>S6 (hD1 _ _ ⟨⟨_,_,rfl⟩,done (k1.trans k7) (by omega) L7 F7⟩))
    refine ex1 rfl (ex1 rfl ⟨by show 2<=sizeLine;decide,fun t4 ht4=>?_⟩)
    have F8:=F7.new (o:=.tup [.str one,.str one]) ht4
    have e7:=L7.get
    have L8:=L7.upd (o:=.tup [.str one,.str one]) (B1 e7 ht4)
    have k8:=(k1.trans k7).new (o:=.tup [.str one,.str one]) ht4
    refine ex1 rfl (Z0 (k:=(one,one)) A9 F8.at_ F8.pin ⟨nm _ hone,nm _ hone⟩ (fun q hq=>⟨nm _ (F8.nm q hq).1,nm _ (F8.nm q hq).2⟩) ⟨_,rfl,?_⟩)
    refine R1 (fun h5=>?_) (fun h5=>hD1 _ _ ⟨⟨_,_,rfl⟩,done k8 (by omega) L8 F8⟩)
    have h5':(one,one)∉ps.map fun q=>q.2:=by simpa using h5
    have lps:=F8.len
    have lps':ps.length<=100:=Nat.le_trans lps (Nat.mul_le_mul hlen hlen)
    have rl:(E8 ps).length=ps.length:=by unfold E8;rw[List.length_map]
    refine ex1 rfl ⟨.inl ⟨rfl,_,SqL.of F8.at_⟩,ex1 rfl (ex1 rfl ⟨by show 2<=sizeLine;decide,fun t5 ht5=>?_⟩)⟩
    have F9:=F8.new (o:=.tup [.str one,.str one]) ht5
    have e8:=L8.get
    have L9:=L8.upd (o:=.tup [.str one,.str one]) (B1 e8 ht5)
    have k9:=k8.new (o:=.tup [.str one,.str one]) ht5
    refine⟨f,B8 rfl rfl ⟨F9.at_,by rw[sizeLine_eq];omega,hD1 _ _ ⟨⟨_,_,rfl⟩,done (k9.updN hf) (by omega) (L9.upd npf) (F9.app A9 hone hone h5')⟩⟩⟩
  ·rintro σ H1 ⟨⟨v4,v5,rfl⟩,k1,⟨c',hc',L1⟩,ps,F1⟩
   simp only[List.length_map]at hc'
   have lps:=F1.len
   have lps':ps.length<=100:=Nat.le_trans lps (Nat.mul_le_mul hlen hlen)
   exact⟨_,rfl,q f ps c' H1 hf k1 F1.at_ F1.pin ⟨F1.nm,F1.nd,by omega⟩ (by omega) L1⟩
end
theorem bor(x y:Nat):Builtin.bitOr (x:Int) (y:Int) =((x ||| y:Nat):Int):=by
 have h1:¬0<=Builtin.bitNot (x:Int):=by unfold Builtin.bitNot;omega
 have h2:¬0<=Builtin.bitNot (y:Int):=by unfold Builtin.bitNot;omega
 have h3:∀z:Int,Builtin.bitNot (Builtin.bitNot z)=z:=fun z=>by unfold Builtin.bitNot;omega
 rw[Builtin.bitOr,PyProof.Rows.bitAnd_nn h1 h2,h3,h3,h3]
 rfl
theorem Ze(x y:Nat):Builtin.bitAnd (x:Int) (y:Int) =((x &&& y:Nat):Int):=by simp[Builtin.bitAnd]
theorem Td(k:Nat):(1:Int)*2 ^((k:Int).toNat) =((2^k:Nat):Int):=by rw[Int.one_mul,Int.toNat_natCast,Int.natCast_pow];rfl
theorem Rv(m k:Nat):decide (V.int (Builtin.bitAnd ((m:Int) / 2 ^((k:Int).toNat)) 1)=V.int 1)=m.testBit k:=by
 have e1:(m:Int) / 2 ^((k:Int).toNat) =((m / 2^k:Nat):Int):=by rw[Int.toNat_natCast,Int.natCast_ediv,Int.natCast_pow];rfl
 have e2:Builtin.bitAnd ((m / 2^k:Nat):Int) 1 =((m / 2^k % 2:Nat):Int):=by
  rw[show(1:Int) =((1:Nat):Int)from rfl,Ze,Nat.and_one_is_mod]
 rw[e1,e2,Nat.testBit_eq_decide_div_mod_eq]
 refine decide_eq_decide.mpr ⟨fun h=>?_,fun h=>?_⟩
 ·injection h with h
  omega
 ·rw[h];rfl
noncomputable def Dl(m:Nat):V:=.int (m:Int)
structure MB(ns:List Str)(ks:List (Str×Str))(B:List Nat):Prop where
 len:B.length=ns.length
 bit:∀i j,(B.getD i 0).testBit j=true↔∃k∈ks,ns[i]?=some k.1/\ns[j]?=some k.2
theorem MB.zero(ns:List Str):MB ns [] (List.replicate ns.length 0):=by
 refine⟨List.length_replicate,fun i j=>?_⟩
 have e:(List.replicate ns.length 0).getD i 0=0:=by
  rw[List.getD_eq_getElem?_getD,List.getElem?_replicate]
  by_cases h:i<ns.length
  ·rw[if_pos h];rfl
  ·rw[if_neg h];rfl
 rw[e,Nat.zero_testBit]
 simp
theorem o7{α:Type}{l:List α}(h:l.Nodup){i j:Nat}{x:α}(hi:l[i]?=some x)(hj:l[j]?=some x):i=j:=by
 obtain⟨a,e⟩:=List.getElem?_eq_some_iff.mp hi
 obtain⟨b,e'⟩:=List.getElem?_eq_some_iff.mp hj
 exact(List.getElem_inj h).mp (e.trans e'.symm)
theorem MB.step{ns:List Str}{ks:List (Str×Str)}{B:List Nat}(h:MB ns ks B)(nd:ns.Nodup){a b:Nat}{x y:Str}(ha:ns[a]?=some x)(hb:ns[b]?=some y):MB ns (ks ++ [(x,y)]) (B.set a (B.getD a 0 ||| 2^b)):=by
 have hlt:a<B.length:=by rw[h.len];exact(List.getElem?_eq_some_iff.mp ha).1
 refine⟨by rw[List.length_set];exact h.len,fun i j=>?_⟩
 by_cases e:a=i
 ·subst e
  have e:(B.set a (B.getD a 0 ||| 2^b)).getD a 0=B.getD a 0 ||| 2^b:=by
   rw[List.getD_eq_getElem?_getD,List.getElem?_set_self hlt];rfl
  rw[e,Nat.testBit_or,Bool.or_eq_true,h.bit,Nat.testBit_two_pow,decide_eq_true_iff]
  constructor
  ·rintro(⟨k,hk,h1,h2⟩ | rfl)
   ·exact⟨k,List.mem_append_left _ hk,h1,h2⟩
   ·exact⟨(x,y),List.mem_append_right _ (List.mem_singleton.mpr rfl),ha,hb⟩
  ·rintro⟨k,hk,h1,h2⟩
   rcases List.mem_append.mp hk with hk | hk
   ·exact .inl ⟨k,hk,h1,h2⟩
   ·rw[List.mem_singleton.mp hk]at h2
    exact .inr (o7 nd hb h2)
 ·have e':(B.set a (B.getD a 0 ||| 2^b)).getD i 0=B.getD i 0:=by
   rw[List.getD_eq_getElem?_getD,List.getElem?_set_ne e,<-List.getD_eq_getElem?_getD]
  rw[e',h.bit]
  constructor
  ·rintro⟨k,hk,h1,h2⟩
   exact⟨k,List.mem_append_left _ hk,h1,h2⟩
  ·rintro⟨k,hk,h1,h2⟩
   rcases List.mem_append.mp hk with hk | hk
   ·exact⟨k,hk,h1,h2⟩
   ·rw[List.mem_singleton.mp hk]at h1
    exact absurd (o7 nd ha h1) e
theorem Vm{x y:Str}(h:x.cps.toList=y.cps.toList):x=y:=by
 cases x;cases y
 exact congrArg Str.mk (Array.toList_inj.mp h)
theorem Pz{x y:Str}(h1:leS x y)(h2:leS y x):x=y:=Vm (List.le_antisymm (as:=x.cps.toList) (bs:=y.cps.toList) h1 h2)
theorem O5{a b:List Str}(h1:a.Pairwise leS)(h2:b.Pairwise leS)(h:a.Perm b):a=b:=List.Perm.eq_of_pairwise (fun _ _ _ _=>Pz) h1 h2 h
structure ViewAt(H:Hp)(p v:Addr)(ns:List Str)(ks:List (Str×Str))(A B:List Nat):Prop where
 ex:∃a s t,H v=some (.lst [.ref a,.ref s,.ref t])/\H a=some (.lst (ns.map V.str))/\H s=some (.lst (A.map Dl))/\H t=some (.lst (B.map Dl))/\v≠p/\a≠p/\s≠p/\t≠p
 mA:MB ns (ks.map fun k=>(k.2,k.1)) A
 mB:MB ns ks B
theorem ViewAt.sm{H H':Hp}{p v:Addr}{ns:List Str}{ks:List (Str×Str)}{A B:List Nat}(h:ViewAt H p v ns ks A B)(s:Sm [p] H H'):ViewAt H' p v ns ks A B:=by
 obtain⟨⟨a,b,c,e1,e2,e3,e4,n1,n2,n3,n4⟩,h1,h2⟩:=h
 exact⟨⟨a,b,c,Sm1 s e1 n1,Sm1 s e2 n2,Sm1 s e3 n3,Sm1 s e4 n4,n1,n2,n3,n4⟩,h1,h2⟩
theorem ViewAt.same{H H':Hp}{p v:Addr}{ns:List Str}{ks:List (Str×Str)}{A B:List Nat}(h:ViewAt H p v ns ks A B)(s:Same H H'):ViewAt H' p v ns ks A B:=h.sm s.sm
theorem My{n j:Nat}(h:j<n):ixN n (j:Int)=some j:=by
 unfold ixN
 rw[if_pos (by omega),if_pos (by omega),Int.toNat_natCast]
theorem Cz{B:List Nat}{a:Nat}(h:a<B.length):atI (B.map Dl) (a:Int)=some (.int ((B.getD a 0:Nat):Int)):=by
 refine U6 ?_
 rw[List.getElem?_map,List.getElem?_eq_getElem h,List.getD_eq_getElem?_getD,List.getElem?_eq_getElem h]
 rfl
theorem Jm(n:Nat):(List.replicate ((n:Int).toNat) [V.int 0]).flatten =(List.replicate n 0).map Dl:=by
 rw[Int.toNat_natCast]
 induction n with
 | zero=>rfl
 | succ n ih =>
  rw[List.replicate_succ,List.flatten_cons,ih,List.replicate_succ,List.map_cons]
  rfl
theorem Ik(B:List Nat)(a m:Nat):(B.map Dl).set a (.int (m:Int)) =(B.set a m).map Dl:=by
 rw[List.map_set]
 rfl
section
variable{P:Program}{w:World}{K:PySem.W.Frag}{mg:Str->Option Value}{base:Heap}
theorem l4:FnScope ["_law_names_here", "_law_strikes_here", "_law_strikers", "_law_struck", "_law_one", "_law_other", "_law_a", "_law_b"] ["_law_names_here", "_law_strikes_here"] (B7 s_law_masks):=⟨rfl,rfl,rfl,by decide +kernel,rfl,by decide +kernel,by decide +kernel⟩
noncomputable def Ir:Sp:=fun vs H Q _=>∃(n a:Addr) (ss:List Str) (ps:List PA2),vs = [.ref n,.ref a]/\H n=some (.lst (ss.map V.str))/\b7 ss/\H a=some (.lst (E8 ps))/\(∀q∈ps,D0 H q)/\StrkOk ss ps /\
 ∀v ns A B H',H v=none->Same H H'->ns.Perm ss->ns.Pairwise leS->(∀p o,H p=some o->ViewAt H' p v ns (ps.map fun q=>q.2) A B)->Q (.ref v) H'
set_option maxHeartbeats 2000000 in
theorem Er(T:Tx K mg):FnOk P w K mg base CX0 1 T.law_masks.f T.law_masks.fd ["_law_names_here", "_law_strikes_here"] Ir:=by
 have sc:=l4
 refine T.law_masks.F.ok l4 (fun vs H Q E h=>?_) (fun cdv A outer s H vs Q E hr h=>?_)
 ·obtain⟨n,a,ss,ps,rfl,_⟩:=h
  rfl
 ·obtain⟨n,a,ss,ps,rfl,hn,hN,ha,hP,hO,q⟩:=h
  refine⟨_,(B2 (C6 (i:=0) sc.nd rfl (by first | exact Or.inl rfl | exact Or.inr rfl) (D6 (p9 K) T.b_sorted K3 (A8 (pv 0) B0)))
   (B2 (Ru (i:=2) (j:=3) rfl sc.nd rfl rfl (by decide) rfl rfl (A8 (E4 Sc (J1 (A8 B5 B0)) (D6 (J9 K) T.b_len J3 (A8 (pv 0) B0))) (A8 (E4 Sc (J1 (A8 B5 B0)) (D6 (J9 K) T.b_len J3 (A8 (pv 0) B0))) B0)) rfl)
   (B2 (M9 PassesOwn.never rfl (piL K (pv 1)) (pgT K (n:=2) (C7 (E1 (i:=4) sc.nd rfl (by first | exact Or.inl rfl | exact Or.inr rfl)) (C7 (E1 (i:=5) sc.nd rfl (by first | exact Or.inl rfl | exact Or.inr rfl)) M6)))
   (B2 (Ru (i:=6) (j:=7) rfl sc.nd rfl rfl (by decide) rfl rfl (A8 (Jh K PySem.F.plainAttrs_list PySem.F.slot_list_index PySem.F.type_list_index (Ig K) (pv 0) (A8 (pv 4) B0)) (A8 (Jh K PySem.F.plainAttrs_list PySem.F.slot_list_index PySem.F.type_list_index (Ig K) (pv 0) (A8 (pv 5) B0)) B0)) rfl)
   (B2 (Bq (E4 Et (G9 (ixL K) (pv 2) (pv 7) (fun _ _=>rfl)) (E4 y0 B5 (pv 6))) (Io (pv 2) (pv 7) o0))
   (B3 (Bq (E4 Et (G9 (ixL K) (pv 3) (pv 6) (fun _ _=>rfl)) (E4 y0 B5 (pv 7))) (Io (pv 3) (pv 6) o0))))))
   (B3 (C0 (J1 (A8 (pv 0) (A8 (pv 2) (A8 (pv 3) B0))))))))),?_⟩
  refine ex1 rfl ⟨n,ss,rfl,SqL.of hn,fun l ns hl pm srt=>?_⟩
  have nd:ns.Nodup:=pm.nodup_iff.mpr hN.2.1
  have lm:(ns.map V.str).length=ns.length:=List.length_map ..
  have ln:ns.length<=100:=by rw[pm.length_eq];exact hN.2.2
  have s1:Same H (upd H l (.lst (ns.map V.str))):=Same.new hl
  refine⟨by show 1<=sizeLine;decide,fun t1 ht1=>?_⟩
  have s2:=s1.trans (Same.new (o:=.lst [V.int 0]) ht1)
  refine ex1 rfl (B8 (a:=l) rfl (.inl (SqL.of ((Same.new ht1) _ _ A9))) ⟨t1,B8 rfl rfl ⟨A9,by omega,by omega,by rw[lm,Int.toNat_natCast,sizeLine_eq];show 1*ns.length<=_;omega,fun s hs=>?_⟩⟩)
  rw[lm,Jm]
  have hs1:upd H l (.lst (ns.map V.str)) s=none:=(Same.new ht1).free hs
  have hs0:H s=none:=s2.free hs
  have nls:l≠s:=B1 A9 hs1
  have s3:=s2.trans (Same.new (o:=.lst ((List.replicate ns.length 0).map Dl)) hs)
  refine⟨by show 1<=sizeLine;decide,fun t2 ht2=>?_⟩
  have s4:=s3.trans (Same.new (o:=.lst [V.int 0]) ht2)
  have el:(upd (upd (upd (upd H l (.lst (ns.map V.str))) t1 (.lst [V.int 0])) s (.lst ((List.replicate ns.length 0).map Dl))) t2 (.lst [V.int 0])) l=some (.lst (ns.map V.str)) :=
   (Same.new ht2) _ _ ((Same.new hs) _ _ ((Same.new ht1) _ _ A9))
  have es:(upd (upd (upd (upd H l (.lst (ns.map V.str))) t1 (.lst [V.int 0])) s (.lst ((List.replicate ns.length 0).map Dl))) t2 (.lst [V.int 0])) s=some (.lst ((List.replicate ns.length 0).map Dl)):=(Same.new ht2) _ _ A9
  generalize hG:upd (upd (upd (upd H l (.lst (ns.map V.str))) t1 (.lst [V.int 0])) s (.lst ((List.replicate ns.length 0).map Dl))) t2 (.lst [V.int 0])=H4 at s4 el es⊢
  have et2:H4 t2=some (.lst [V.int 0]):=by rw[<-hG];exact A9
  refine ex1 rfl (B8 (a:=l) rfl (.inl (SqL.of el)) ⟨t2,B8 rfl rfl ⟨et2,by omega,by omega,by rw[lm,Int.toNat_natCast,sizeLine_eq];show 1*ns.length<=_;omega,fun t ht=>?_⟩⟩)
  rw[lm,Jm]
  have nlt:l≠t:=B1 el ht
  have nst:s≠t:=B1 es ht
  have s5:=s4.trans (Same.new (o:=.lst ((List.replicate ns.length 0).map Dl)) ht)
  have ht0:H t=none:=s4.free ht
  refine⟨_,ex1 rfl (ex1 rfl ⟨a,rfl,⟨_,SqL.of (s5 _ _ ha)⟩,?_⟩)⟩
  refine U2 (asL (K:=K) (SqL.of ha)) (fun i σ H1=>(∃v4 v5 v6 v7,σ = [some (.ref l),some (.ref a),some (.ref s),some (.ref t),v4,v5,v6,v7])/\Same H H1/\H1 l=some (.lst (ns.map V.str)) /\
   ∃A B:List Nat,H1 s=some (.lst (A.map Dl))/\H1 t=some (.lst (B.map Dl))/\MB ns ((ps.take i).map fun q=>(q.2.2,q.2.1)) A/\MB ns ((ps.take i).map fun q=>q.2) B) ?_ ?_ ?_ ?_
  ·exact⟨⟨_,_,_,_,rfl⟩,s5,by rw[B6 nlt];exact el,_,_,by rw[B6 nst];exact es,A9,MB.zero ns,MB.zero ns⟩
  ·rintro i σ H1 hi ⟨_,h1,_⟩
   exact h1.at a
  ·rintro i σ H1 v hv ⟨⟨v4,v5,v6,v7,rfl⟩,h1,h2,A,B,h3,h4,h5,h6⟩ D1 hD1 _
   unfold E8 at hv
   rw[List.getElem?_map]at hv
   cases hq:ps[i]? with
   | none=>rw[hq]at hv;cases hv
   | some q =>
    rw[hq]at hv
    cases hv
    have hm:q∈ps:=List.mem_of_getElem? hq
    obtain⟨m1,m2⟩:=hO.nm q hm
    have m1:q.2.1∈ns:=pm.mem_iff.mpr m1
    have m2:q.2.2∈ns:=pm.mem_iff.mpr m2
    obtain⟨j,hj⟩:=List.mem_iff_getElem?.mp m1
    obtain⟨k,hk⟩:=List.mem_iff_getElem?.mp m2
    have lj:j<ns.length:=(List.getElem?_eq_some_iff.mp hj).1
    have lk:k<ns.length:=(List.getElem?_eq_some_iff.mp hk).1
    refine⟨q.1,ex1 rfl ⟨SqT.of (h1 _ _ (hP q hm)),rfl,_,ex1 rfl (B8 rfl rfl ?_)⟩⟩
    refine ex1 rfl ⟨.inl ⟨rfl,_,SqL.of h2⟩,ex1 rfl ⟨l,ns,q.2.1,j,rfl,rfl,SqL.of h2,hj,fun m hm z=>by have:=o7 nd z hj;omega,?_⟩⟩
    refine ex1 rfl ⟨.inl ⟨rfl,_,SqL.of h2⟩,ex1 rfl ⟨l,ns,q.2.2,k,rfl,rfl,SqL.of h2,hk,fun m hm z=>by have:=o7 nd z hk;omega,?_⟩⟩
    refine⟨_,ex1 rfl ?_⟩
    refine ex1 rfl (ex1 rfl ⟨s,_,B8 rfl rfl ⟨SqL.of h3,Cz (by rw[h5.len];exact lk),ex1 rfl (B8 rfl rfl ⟨⟨by omega,by omega,by decide⟩,B8 rfl rfl ?_⟩)⟩⟩)
    dsimp only
    rw[Td,bor]
    refine ex1 rfl (ex1 rfl ⟨s,_,_,k,rfl,rfl,h3,My (by rw[List.length_map,h5.len];exact lk),?_⟩)
    rw[Ik]
    refine ex1 rfl (ex1 rfl ⟨t,_,B8 rfl rfl ⟨SqL.of (by rw[B6 nst.symm];exact h4),Cz (by rw[h6.len];exact lj),ex1 rfl (B8 rfl rfl ⟨⟨by omega,by omega,by decide⟩,B8 rfl rfl ?_⟩)⟩⟩)
    dsimp only
    rw[Td,bor]
    refine ex1 rfl (ex1 rfl ⟨t,_,_,j,rfl,rfl,by rw[B6 nst.symm];exact h4,My (by rw[List.length_map,h6.len];exact lj),?_⟩)
    rw[Ik]
    refine hD1 _ _ ⟨⟨_,_,_,_,rfl⟩,(h1.upd hs0).upd ht0,?_,A.set k (A.getD k 0 ||| 2^j),_,?_,A9,?_,?_⟩
    ·rw[B6 nlt,B6 nls];exact h2
    ·rw[B6 nst,A9]
    ·rw[C1 hq,List.map_append]
     exact h5.step nd hk hj
    ·rw[C1 hq,List.map_append]
     exact h6.step nd hj hk
  ·rintro σ H1 ⟨⟨v4,v5,v6,v7,rfl⟩,h1,h2,A,B,h3,h4,h5,h6⟩
   have lr:(E8 ps).length=ps.length:=by unfold E8;rw[List.length_map]
   rw[lr,List.take_length]at h5 h6
   refine ex1 rfl (ex1 rfl (ex1 rfl ⟨by show 3<=sizeLine;decide,fun v hv=>?_⟩))
   have s9:=Same.new (o:=.lst [.ref l,.ref s,.ref t]) hv
   refine q v ns A B _ (h1.free hv) (h1.trans s9) pm srt fun p o hp=>⟨⟨l,s,t,A9,s9 _ _ h2,s9 _ _ h3,s9 _ _ h4,(B1 (h1 _ _ hp) hv).symm,(B1 hp hl).symm,(B1 hp hs0).symm,(B1 hp ht0).symm⟩,?_,h6⟩
   rw[List.map_map]
   exact h5
end
noncomputable def Hh(ns:List Str)(m i:Nat):List Str:=(List.range i).filterMap fun k=>if m.testBit k=true then ns[k]? else none
noncomputable def setOf(ns:List Str)(m:Nat):List Str:=Hh ns m ns.length
theorem d7{ns:List Str}{m i:Nat}{x:Str}(h:ns[i]?=some x):Hh ns m (i+1)=Hh ns m i++if m.testBit i=true then [x]else []:=by
 unfold Hh
 rw[List.range_succ,List.filterMap_append]
 congr 1
 by_cases e:m.testBit i=true
 ·rw[if_pos e];simp[e,h]
 ·rw[if_neg e];simp[e]
theorem Af(ns:List Str)(m:Nat):∀i,i<=ns.length->(Hh ns m i).Sublist (ns.take i)
 | 0,_=>by simp[Hh]
 | i+1,h=>by
  have hi:ns[i]?=some ns[i]:=List.getElem?_eq_getElem (by omega)
  rw[d7 hi,C1 hi]
  refine(Af ns m i (by omega)).append ?_
  by_cases e:m.testBit i=true
  ·rw[if_pos e];exact List.Sublist.refl _
  ·rw[if_neg e];exact List.nil_sublist _
theorem Mj(ns:List Str)(m:Nat):(setOf ns m).Sublist ns:=by
 have:=Af ns m ns.length (Nat.le_refl _)
 rwa [List.take_length]at this
section
variable{P:Program}{w:World}{K:PySem.W.Frag}{mg:Str->Option Value}{base:Heap}
theorem V6:FnScope ["_law_view", "_law_mask"] ["_law_view", "_law_mask"] (B7 s_law_set_of):=⟨rfl,rfl,rfl,by decide +kernel,rfl,by decide +kernel,by decide +kernel⟩
noncomputable def Fh:Sp:=fun vs H Q _=>∃(p v:Addr) (m:Nat) (ns:List Str) (ks:List (Str×Str)) (A B:List Nat),vs = [.ref v,.int (m:Int)]/\ViewAt H p v ns ks A B/\ns.length<=100 /\
 ∀l H',H l=none->Same H H'->H' l=some (.lst ((setOf ns m).map V.str))->Q (.ref l) H'
theorem Ci(T:Tx K mg):FnOk P w K mg base CX0 1 T.law_set_of.f T.law_set_of.fd ["_law_view", "_law_mask"] Fh:=by
 have sc:=V6
 refine T.law_set_of.F.ok V6 (fun vs H Q E h=>?_) (fun cdv A outer s H vs Q E hr h=>?_)
 ·obtain⟨p,n,a,ss,ps,A,B,rfl,_⟩:=h
  rfl
 ·obtain⟨p,v,m,ns,ks,A,B,rfl,hV,ln,q⟩:=h
  obtain⟨⟨a,s,t,e1,e2,e3,e4,_⟩,mA,mB⟩:=id hV
  refine⟨_,(B3 (C0 (Q9 (N':=["_law_k", "_law_name", "_law_mask"]) (cap:=[none,none,some 1]) (cl:=[("_law_mask",_)]) (K2 ⟨⟨rfl,rfl,rfl,rfl⟩,trivial⟩ ⟨rfl,trivial⟩) rfl (piE K T.b_enumerate (A8 (G9 (ixL K) (pv 0) B5 (fun _ _=>rfl)) B0)) (fun _ _ _ _=>by exact⟨(pgT K (n:=2) (C7 (pgC 0) (C7 (pgC 1) M6))),(P2 (C4 Q3 (E4 Ie (E4 Sf (pv 2) (pv 0)) B5) B5 (E3 _))),(pv 1)⟩)))),?_⟩
  dsimp only[Me,Oy,K7,Ro,tCB,X7,Hk]
  refine ex1 rfl ⟨v,_,B8 rfl rfl ⟨SqL.of e1,rfl,a,ex1 rfl ⟨SqL.of e2,fun D hD=>?_⟩⟩⟩
  refine Be (n:=ns.length) (fun i σ H1=>(∃v0 v1,σ = [v0,v1,some (.int (m:Int))])/\Same H H1/\H1 D=some (.lst ((Hh ns m i).map V.str))) ⟨⟨_,_,rfl⟩,Same.new hD,A9⟩ ?_ ?_ ?_ ?_
  ·rintro i σ H1 hi ⟨_,s1,e5⟩
   exact⟨_,_,(s1.at a).seqL (SqL.of e2),by rw[List.getElem?_map,List.getElem?_eq_getElem hi];rfl⟩
  ·rintro σ H1 ⟨_,s1,e5⟩
   exact⟨_,(s1.at a).seqL (SqL.of e2),by rw[List.length_map]⟩
  ·rintro i σ H1 x H' N hi ⟨⟨v0,v1,rfl⟩,s1,e5⟩ ⟨t,x,rfl,ht,rfl,hx⟩ hN
   have hx:=hx _ ((s1.at a).seqL (SqL.of e2))
   have hi':ns[i]?=some ns[i]:=List.getElem?_eq_getElem hi
   rw[List.getElem?_map,hi']at hx
   cases hx
   refine⟨t,ex1 rfl ⟨SqT.of A9,rfl,_,ex1 rfl (B8 rfl rfl ?_)⟩⟩
   have nDt:D≠t:=B1 e5 ht
   have s2:Same H (upd H1 t (.tup [.int i,.str ns[i]])):=s1.trans (Same.new ht)
   refine ex1 rfl (ex1 rfl (B8 rfl rfl ⟨(show(0:Int)<=(i:Int) by omega),B8 rfl rfl ⟨rfl,ex1 rfl ?_⟩⟩))
   dsimp only
   rw[Rv]
   have hle:=(Af ns m i (by omega)).length_le
   rw[List.length_take]at hle
   refine R1 (fun hb=>?_) (fun hb=>?_)
   ·refine ex1 rfl ⟨_,by rw[B6 nDt];exact e5,by rw[List.length_map,sizeLine_eq];omega,hN _ _ ⟨⟨_,_,rfl⟩,s2.upd hD,?_⟩⟩
    rw[A9,d7 hi',if_pos hb,List.map_append];rfl
   ·refine hN _ _ ⟨⟨_,_,rfl⟩,s2,?_⟩
    rw[B6 nDt,d7 hi',if_neg hb,List.append_nil];exact e5
  ·rintro σ H1 ⟨_,s1,e5⟩
   exact q D H1 hD s1 e5
end
noncomputable def zAh(B:List Nat)(m j:Nat):Prop:=∃k,m.testBit k=true/\(B.getD k 0).testBit j=true
noncomputable def Wi(n:Nat)(A B:List Nat)(m j:Nat):Prop:=j<n/\∀b,(A.getD j 0).testBit b=true->zAh B m b
noncomputable def Wp(B:List Nat)(m:Nat):Prop:=∀i j,m.testBit i=true->m.testBit j=true->¬(B.getD i 0).testBit j=true
theorem Fd(a h:Nat):decide (V.int (Builtin.bitAnd (a:Int) (Builtin.bitNot (h:Int)))=V.int 0)=true↔∀b,a.testBit b=true->h.testBit b=true:=by
 rw[decide_eq_true_iff,PyProof.Rows.bitAnd_not,Ze]
 constructor
 ·intro e b hb
  injection e with e
  have e:a=a &&& h:=by omega
  rw[e,Nat.testBit_and,Bool.and_eq_true]at hb
  exact hb.2
 ·intro k
  have e:a &&& h=a:=Nat.eq_of_testBit_eq fun b=>by
   rw[Nat.testBit_and]
   cases hb:a.testBit b with
   | false=>rfl
   | true=>rw[k b hb];rfl
  rw[e,Int.sub_self]
theorem Rc(a m:Nat):decide (V.int (Builtin.bitAnd (a:Int) (m:Int))=V.int 0)=true↔∀b,a.testBit b=true->¬m.testBit b=true:=by
 rw[decide_eq_true_iff,Ze]
 constructor
 ·intro e b hb hm
  injection e with e
  have e:a &&& m=0:=by omega
  have:(a &&& m).testBit b=true:=by rw[Nat.testBit_and,hb,hm];rfl
  rw[e,Nat.zero_testBit]at this
  cases this
 ·intro k
  have e:a &&& m=0:=Nat.eq_of_testBit_eq fun b=>by
   rw[Nat.testBit_and,Nat.zero_testBit]
   cases hb:a.testBit b with
   | false=>rfl
   | true =>
    have:=k b hb
    cases hm:m.testBit b with
    | false=>rfl
    | true=>exact absurd hm this
  rw[e]
  rfl
theorem Oe(d k j:Nat):(d ||| 2^k).testBit j=true↔d.testBit j=true\/j=k:=by
 rw[Nat.testBit_or,Bool.or_eq_true,Nat.testBit_two_pow,decide_eq_true_iff]
 exact⟨fun h=>h.imp id Eq.symm,fun h=>h.imp id Eq.symm⟩
section
variable{P:Program}{w:World}{K:PySem.W.Frag}{mg:Str->Option Value}{base:Heap}
theorem Bf:FnScope ["_law_view", "_law_mask", "_law_hit_here", "_law_k"] ["_law_view", "_law_mask"] (B7 s_law_hit):=⟨rfl,rfl,rfl,by decide +kernel,rfl,by decide +kernel,by decide +kernel⟩
noncomputable def Mr:Sp:=fun vs H Q _=>∃(p v:Addr) (m:Nat) (ns:List Str) (ks:List (Str×Str)) (A B:List Nat),vs = [.ref v,.int (m:Int)]/\ViewAt H p v ns ks A B/\ns.length<=100 /\
 ∀h:Nat,(∀j,h.testBit j=true↔zAh B m j)->Q (.int (h:Int)) H
theorem Bm(T:Tx K mg):FnOk P w K mg base CX0 1 T.law_hit.f T.law_hit.fd ["_law_view", "_law_mask"] Mr:=by
 have sc:=Bf
 refine T.law_hit.F.ok Bf (fun vs H Q E h=>?_) (fun cdv A outer s H vs Q E hr h=>?_)
 ·obtain⟨p,n,a,ss,ps,A,B,rfl,_⟩:=h
  rfl
 ·obtain⟨p,v,m,ns,ks,A,B,rfl,hV,ln,q⟩:=h
  obtain⟨⟨a,s,t,e1,e2,e3,e4,_⟩,mA,mB⟩:=id hV
  refine⟨_,(B2 (C6 (i:=2) sc.nd rfl (by first | exact Or.inl rfl | exact Or.inr rfl) B5)
   (B2 (M9 PassesOwn.never rfl (Sz T.b_range (A8 (D6 (J9 K) T.b_len J3 (A8 (G9 (ixL K) (pv 0) B5 (fun _ _=>rfl)) B0)) B0)) (E1 (i:=3) sc.nd rfl (by first | exact Or.inl rfl | exact Or.inr rfl))
   (B3 (J8 (C4 Q3 (E4 Ie (E4 Sf (pv 1) (pv 3)) B5) B5 (E3 _)) (B3 (C6 (i:=2) sc.nd rfl (by first | exact Or.inl rfl | exact Or.inr rfl) (E4 Et (pv 2) (G9 (ixL K) (G9 (ixL K) (pv 0) B5 (fun _ _=>rfl)) (pv 3) (fun _ _=>rfl))))) D9)))
   (B3 (C0 (pv 2))))),?_⟩
  refine ex1 rfl ⟨v,_,B8 rfl rfl ⟨SqL.of e1,rfl,B8 (a:=a) rfl (.inl (SqL.of e2)) (ex1 rfl ⟨?_,?_,?_⟩)⟩⟩
  ·omega
  ·rw[List.length_map];omega
  rw[List.length_map,Int.toNat_natCast]
  refine K9 (fun i σ H1=>H1=H/\∃(h:Nat) (v3:Option V),σ = [some (.ref v),some (.int (m:Int)),some (.int (h:Int)),v3]/\∀j,h.testBit j=true↔∃k,k<i/\m.testBit k=true/\(B.getD k 0).testBit j=true) ?_ ?_ ?_
  ·exact⟨rfl,0,_,rfl,fun j=>by rw[Nat.zero_testBit];simp⟩
  ·rintro i σ H1 hi ⟨rfl,h,v3,rfl,hh⟩ D1 hD1 _
   rw[Int.zero_add]
   refine ex1 rfl (ex1 rfl (B8 rfl rfl ⟨(show(0:Int)<=(i:Int) by omega),B8 rfl rfl ⟨rfl,ex1 rfl ?_⟩⟩))
   dsimp only
   rw[Rv]
   refine R1 (fun hb=>?_) (fun hb=>?_)
   ·refine ex1 rfl (ex1 rfl ⟨v,_,B8 rfl rfl ⟨SqL.of e1,rfl,ex1 rfl ⟨t,_,B8 rfl rfl ⟨SqL.of e4,Cz (by rw[mB.len];exact hi),B8 rfl rfl ?_⟩⟩⟩⟩)
    dsimp only
    rw[bor]
    refine hD1 _ _ ⟨rfl,_,_,rfl,fun j=>?_⟩
    rw[Nat.testBit_or,Bool.or_eq_true,hh]
    constructor
    ·rintro(⟨k,h1,h2⟩ | h2)
     ·exact⟨k,by omega,h2⟩
     ·exact⟨i,by omega,hb,h2⟩
    ·rintro⟨k,h1,h2⟩
     by_cases e:k=i
     ·rw[e]at h2;exact .inr h2.2
     ·exact .inl ⟨k,by omega,h2⟩
   ·refine hD1 _ _ ⟨rfl,h,_,rfl,fun j=>?_⟩
    rw[hh]
    constructor
    ·rintro⟨k,h1,h2⟩
     exact⟨k,by omega,h2⟩
    ·rintro⟨k,h1,h2⟩
     by_cases e:k=i
     ·rw[e]at h2;exact absurd h2.1 hb
     ·exact⟨k,by omega,h2⟩
  ·rintro σ H1 ⟨rfl,h,v3,rfl,hh⟩
   refine ex1 rfl (q h fun j=>?_)
   rw[hh]
   constructor
   ·rintro⟨k,h1,h2⟩
    exact⟨k,h2⟩
   ·rintro⟨k,h1,h2⟩
    refine⟨k,?_,h1,h2⟩
    obtain⟨z,_,hz,_⟩:=(mB.bit k j).mp h2
    exact(List.getElem?_eq_some_iff.mp hz).1
theorem w8:FnScope ["_law_view", "_law_mask", "_law_hit_here", "_law_kept_here", "_law_k"] ["_law_view", "_law_mask"] (B7 s_law_kept):=⟨rfl,rfl,rfl,by decide +kernel,rfl,by decide +kernel,by decide +kernel⟩
noncomputable def Np:Sp:=fun vs H Q _=>∃(p v:Addr) (m:Nat) (ns:List Str) (ks:List (Str×Str)) (A B:List Nat),vs = [.ref v,.int (m:Int)]/\ViewAt H p v ns ks A B/\ns.length<=100 /\
 ∀h:Nat,(∀j,h.testBit j=true↔Wi ns.length A B m j)->Q (.int (h:Int)) H
theorem Gr(T:Tx K mg):FnOk P w K mg base CX0 2 T.law_kept.f T.law_kept.fd ["_law_view", "_law_mask"] Np:=by
 have G_law_hit:FnOk P w K mg base CX0 1 T.law_hit.f T.law_hit.fd ["_law_view", "_law_mask"] Mr:=Bm T
 have sc:=w8
 refine T.law_kept.F.ok w8 (fun vs H Q E h=>?_) (fun cdv A outer s H vs Q E hr h=>?_)
 ·obtain⟨p,n,a,ss,ps,A,B,rfl,_⟩:=h
  rfl
 ·obtain⟨p,v,m,ns,ks,A,B,rfl,hV,ln,q⟩:=h
  obtain⟨⟨a,s,t,e1,e2,e3,e4,_⟩,mA,mB⟩:=id hV
  refine⟨_,(B2 (C6 (i:=2) sc.nd rfl (by first | exact Or.inl rfl | exact Or.inr rfl) (C5 T.law_hit G_law_hit (hr.mono (by decide)) (A8 (pv 0) (A8 (pv 1) B0))))
   (B2 (C6 (i:=3) sc.nd rfl (by first | exact Or.inl rfl | exact Or.inr rfl) B5)
   (B2 (M9 PassesOwn.never rfl (Sz T.b_range (A8 (D6 (J9 K) T.b_len J3 (A8 (G9 (ixL K) (pv 0) B5 (fun _ _=>rfl)) B0)) B0)) (E1 (i:=4) sc.nd rfl (by first | exact Or.inl rfl | exact Or.inr rfl))
   (B3 (J8 (C4 Q3 (E4 Ie (G9 (ixL K) (G9 (ixL K) (pv 0) B5 (fun _ _=>rfl)) (pv 4) (fun _ _=>rfl)) (zAd Xi (pv 2))) B5 (E3 _)) (B3 (C6 (i:=3) sc.nd rfl (by first | exact Or.inl rfl | exact Or.inr rfl) (E4 Et (pv 3) (E4 y0 B5 (pv 4))))) D9)))
   (B3 (C0 (pv 3)))))),?_⟩
  refine ex1 rfl (ex1 rfl (Sq (a:=p) (b:=v) (c:=m) (d:=ns) (e:=ks) (f:=A) (g:=B) rfl hV ln fun hit hhit=>?_))
  refine ex1 rfl ⟨v,_,B8 rfl rfl ⟨SqL.of e1,rfl,B8 (a:=a) rfl (.inl (SqL.of e2)) (ex1 rfl ⟨?_,?_,?_⟩)⟩⟩
  ·omega
  ·rw[List.length_map];omega
  rw[List.length_map,Int.toNat_natCast]
  refine K9 (fun i σ H1=>H1=H/\∃(h:Nat) (v3:Option V),σ = [some (.ref v),some (.int (m:Int)),some (.int (hit:Int)),some (.int (h:Int)),v3]/\∀j,h.testBit j=true↔Wi i A B m j) ?_ ?_ ?_
  ·exact⟨rfl,0,_,rfl,fun j=>by rw[Nat.zero_testBit];exact⟨fun z=>(by cases z),fun z=>absurd z.1 (Nat.not_lt_zero _)⟩⟩
  ·rintro i σ H1 hi ⟨rfl,h,v3,rfl,hh⟩ D1 hD1 _
   rw[Int.zero_add]
   refine ex1 rfl ⟨v,_,B8 rfl rfl ⟨SqL.of e1,rfl,ex1 rfl ⟨s,_,B8 rfl rfl ⟨SqL.of e3,Cz (by rw[mA.len];exact hi),ex1 rfl (ex1 rfl (B8 rfl rfl ⟨rfl,ex1 rfl ?_⟩))⟩⟩⟩⟩
   dsimp only
   have ek:=Fd (A.getD i 0) hit
   refine R1 (fun hb=>?_) (fun hb=>?_)
   ·refine ex1 rfl (ex1 rfl (B8 rfl rfl ⟨⟨by omega,by omega,by decide⟩,B8 rfl rfl ?_⟩))
    dsimp only
    rw[Td,bor]
    refine hD1 _ _ ⟨rfl,_,_,rfl,fun j=>?_⟩
    rw[Oe,hh]
    constructor
    ·rintro(⟨h1,h2⟩ | rfl)
     ·exact⟨by omega,h2⟩
     ·exact⟨by omega,fun b hb'=>(hhit b).mp (ek.mp hb b hb')⟩
    ·rintro⟨h1,h2⟩
     by_cases e:j=i
     ·exact .inr e
     ·exact .inl ⟨by omega,h2⟩
   ·refine hD1 _ _ ⟨rfl,h,_,rfl,fun j=>?_⟩
    rw[hh]
    constructor
    ·rintro⟨h1,h2⟩
     exact⟨by omega,h2⟩
    ·rintro⟨h1,h2⟩
     by_cases e:j=i
     ·subst e
      exact absurd (ek.mpr fun b hb'=>(hhit b).mpr (h2 b hb')) hb
     ·exact⟨by omega,h2⟩
  ·rintro σ H1 ⟨rfl,h,v3,rfl,hh⟩
   exact⟨_,rfl,q h hh⟩
theorem Q8:FnScope ["_law_view", "_law_mask"] ["_law_view", "_law_mask"] (B7 s_law_is_quiet):=⟨rfl,rfl,rfl,by decide +kernel,rfl,by decide +kernel,by decide +kernel⟩
noncomputable def Ey:Sp:=fun vs H Q _=>∃(p v:Addr) (m:Nat) (ns:List Str) (ks:List (Str×Str)) (A B:List Nat),vs = [.ref v,.int (m:Int)]/\ViewAt H p v ns ks A B/\ns.length<=100 /\
 ∀b:Bool,(b=true↔Wp B m)->Q (.bl b) H
theorem w6(T:Tx K mg):FnOk P w K mg base CX0 2 T.law_is_quiet.f T.law_is_quiet.fd ["_law_view", "_law_mask"] Ey:=by
 have G_law_hit:FnOk P w K mg base CX0 1 T.law_hit.f T.law_hit.fd ["_law_view", "_law_mask"] Mr:=Bm T
 have sc:=Q8
 refine T.law_is_quiet.F.ok Q8 (fun vs H Q E h=>?_) (fun cdv A outer s H vs Q E hr h=>?_)
 ·obtain⟨p,n,a,ss,ps,A,B,rfl,_⟩:=h
  rfl
 ·obtain⟨p,v,m,ns,ks,A,B,rfl,hV,ln,q⟩:=h
  refine⟨_,(B3 (C0 (C9 Q3 (E4 Ie (C5 T.law_hit G_law_hit (hr.mono (by decide)) (A8 (pv 0) (A8 (pv 1) B0))) (pv 1)) B5 (E3 _)))),?_⟩
  refine ex1 rfl (ex1 rfl (Sq (a:=p) (b:=v) (c:=m) (d:=ns) (e:=ks) (f:=A) (g:=B) rfl hV ln fun hit hhit=>?_))
  refine ex1 rfl (B8 rfl rfl ⟨rfl,?_⟩)
  refine q _ ?_
  dsimp only
  rw[Rc]
  constructor
  ·intro h i j hi hj hb
   exact h j ((hhit j).mpr ⟨i,hi,hb⟩) hj
  ·intro h j hj hm
   obtain⟨i,hi,hb⟩:=(hhit j).mp hj
   exact h i j hi hm hb
noncomputable def Low(n m:Nat):Prop:=∀j,m.testBit j=true->j<n
theorem Low.or{n m k:Nat}(h:Low n m)(hk:k<n):Low n (m ||| 2^k):=fun j hj=>((Oe m k j).mp hj).elim (h j) fun e=>by omega
theorem Low.or'{n m k:Nat}(h:Low n m)(h':Low n k):Low n (m ||| k):=fun j hj=>by
 rw[Nat.testBit_or,Bool.or_eq_true]at hj
 exact hj.elim (h j) (h' j)
theorem Low.zero(n:Nat):Low n 0:=fun j hj=>by rw[Nat.zero_testBit]at hj;cases hj
theorem y7:FnScope ["_law_left_here", "_law_view", "_law_drawn", "_law_quiet", "_law_k"] ["_law_left_here", "_law_view"] (B7 s_law_some):=⟨rfl,rfl,rfl,by decide +kernel,rfl,by decide +kernel,by decide +kernel⟩
noncomputable def Od:Sp:=fun vs H Q _=>∃(p v:Addr) (c:Int) (ns:List Str) (ks:List (Str×Str)) (A B:List Nat),vs = [.ref p,.ref v]/\LeftAt H p c/\c<=900000/\ViewAt H p v ns ks A B/\ns.length<=100 /\
 ∀(m:Nat) H',Low ns.length m->Sm [p] H H'->LeftAt H' p (c+ns.length+1)->Q (.int (m:Int)) H'
set_option maxHeartbeats 1000000 in
theorem Ha(T:Tx K mg):FnOk P w K mg base CX0 3 T.law_some.f T.law_some.fd ["_law_left_here", "_law_view"] Od:=by
 have G_law_pick:FnOk P w K mg base CX0 2 T.law_pick.f T.law_pick.fd ["_law_left_here", "_law_many"] Y8:=M3 T
 have G_law_is_quiet:FnOk P w K mg base CX0 2 T.law_is_quiet.f T.law_is_quiet.fd ["_law_view", "_law_mask"] Ey:=w6 T
 have G_law_kept:FnOk P w K mg base CX0 2 T.law_kept.f T.law_kept.fd ["_law_view", "_law_mask"] Np:=Gr T
 have sc:=y7
 refine T.law_some.F.ok y7 (fun vs H Q E h=>?_) (fun cdv A outer s H vs Q E hr h=>?_)
 ·obtain⟨p,n,a,ss,ps,A,B,rfl,_⟩:=h
  rfl
 ·obtain⟨p,v,c,ns,ks,A,B,rfl,hL,c1,hV,ln,q⟩:=h
  obtain⟨_,_,e0,c0⟩:=id hL
  obtain⟨⟨a,s,u,e1,e2,e3,e4,_⟩,mA,mB⟩:=id hV
  refine⟨_,(B2 (Bq (O2 (A8 B5 (A8 B5 B0))) (pgT K (n:=2) (C7 (E1 (i:=2) sc.nd rfl (by first | exact Or.inl rfl | exact Or.inr rfl)) (C7 (E1 (i:=3) sc.nd rfl (by first | exact Or.inl rfl | exact Or.inr rfl)) M6))))
   (B2 (M9 PassesOwn.never rfl (Sz T.b_range (A8 (D6 (J9 K) T.b_len J3 (A8 (G9 (ixL K) (pv 1) B5 (fun _ _=>rfl)) B0)) B0)) (E1 (i:=4) sc.nd rfl (by first | exact Or.inl rfl | exact Or.inr rfl))
   (B3 (J8 (C4 Q3 (C5 T.law_pick G_law_pick (hr.mono (by decide)) (A8 (pv 0) (A8 B5 B0))) B5 (E3 _)) (B2 (C6 (i:=2) sc.nd rfl (by first | exact Or.inl rfl | exact Or.inr rfl) (E4 Et (pv 2) (E4 y0 B5 (pv 4))))
   (B3 (J8 (G7 (C5 T.law_is_quiet G_law_is_quiet (hr.mono (by decide)) (A8 (pv 1) (A8 (E4 Et (pv 3) (E4 y0 B5 (pv 4))) B0)))) (B3 (C6 (i:=3) sc.nd rfl (by first | exact Or.inl rfl | exact Or.inr rfl) (E4 Et (pv 3) (E4 y0 B5 (pv 4))))) D9))) D9)))
   (B3 (C0 (G9 (ixL K) (J1 (A8 (pv 2) (A8 (pv 3) (A8 (E4 Et (pv 3) (C5 T.law_kept G_law_kept (hr.mono (by decide)) (A8 (pv 1) (A8 (pv 3) B0)))) B0)))) (C5 T.law_pick G_law_pick (hr.mono (by decide)) (A8 (pv 0) (A8 B5 B0))) (fun _ _=>rfl)))))),?_⟩
  refine⟨by show 2<=sizeLine;decide,fun t ht=>⟨t,_,rfl,SqT.of A9,rfl,_,_,rfl,_,_,rfl,rfl,?_⟩⟩
  have s1:Same H (upd H t (.tup [.int 0,.int 0])):=Same.new ht
  refine ex1 rfl ⟨v,_,B8 rfl rfl ⟨SqL.of (s1 _ _ e1),rfl,B8 (a:=a) rfl (.inl (SqL.of (s1 _ _ e2))) (ex1 rfl ⟨?_,?_,?_⟩)⟩⟩
  ·omega
  ·rw[List.length_map];omega
  rw[List.length_map,Int.toNat_natCast]
  refine K9 (fun i σ H1=>Sm [p] H H1/\LeftAt H1 p (c+i)/\∃(d r:Nat) (v4:Option V),σ = [some (.ref p),some (.ref v),some (.int (d:Int)),some (.int (r:Int)),v4]/\Low ns.length d/\Low ns.length r) ?_ ?_ ?_
  ·exact⟨s1.sm,(hL.cast (by omega)).same s1,0,0,_,rfl,Low.zero _,Low.zero _⟩
  ·rintro i σ H1 hi ⟨k1,L1,d,r,v4,rfl,hd,hr1⟩ D1 hD1 _
   rw[Int.zero_add]
   refine ex1 rfl (U5 (a:=p) rfl L1 (by omega) (by decide) (by decide) fun d1 H2 hd1 k2 L2=>⟨rfl,_,rfl,?_⟩)
   have k2:=k1.trans k2
   refine R1 (fun hb=>?_) (fun hb=>?_)
   ·refine ex1 rfl (ex1 rfl (B8 rfl rfl ⟨⟨by omega,by omega,by decide⟩,B8 rfl rfl ?_⟩))
    dsimp only
    rw[Td,bor]
    refine ex1 rfl (ex1 rfl (ex1 rfl (B8 rfl rfl ⟨⟨by omega,by omega,by decide⟩,B8 rfl rfl ?_⟩)))
    dsimp only
    rw[Td,bor]
    refine⟨p,v,_,ns,ks,A,B,rfl,hV.sm k2,ln,fun b _=>⟨_,rfl,?_⟩⟩
    refine R1 (fun hb=>?_) (fun hb=>?_)
    ·refine ex1 rfl (ex1 rfl (B8 rfl rfl ⟨⟨by omega,by omega,by decide⟩,B8 rfl rfl ?_⟩))
     dsimp only
     rw[Td,bor]
     exact hD1 _ _ ⟨k2,L2.cast (by omega),_,_,_,rfl,hd.or hi,hr1.or hi⟩
    ·exact hD1 _ _ ⟨k2,L2.cast (by omega),_,_,_,rfl,hd.or hi,hr1⟩
   ·exact hD1 _ _ ⟨k2,L2.cast (by omega),d,r,_,rfl,hd,hr1⟩
  ·rintro σ H1 ⟨k1,L1,d,r,v4,rfl,hd,hr1⟩
   refine ex1 rfl (ex1 rfl (ex1 rfl (ex1 rfl (ex1 rfl ⟨p,v,r,ns,ks,A,B,rfl,hV.sm k1,ln,fun h hh=>?_⟩))))
   refine B8 rfl rfl ?_
   dsimp only
   rw[bor]
   refine⟨by show 3<=sizeLine;decide,fun l hl=>?_⟩
   have e5:=L1.get
   have L2:=L1.upd (o:=.lst [.int (d:Int),.int (r:Int),.int ((r ||| h:Nat):Int)]) (B1 e5 hl)
   refine ex1 rfl (U5 (a:=p) rfl L2 (by omega) (by decide) (by decide) fun d1 H3 hd1 k3 L3=>?_)
   have k4:=(k1.new (o:=.lst [.int (d:Int),.int (r:Int),.int ((r ||| h:Nat):Int)]) hl).trans k3
   have hh':Low ns.length h:=fun j hj=>((hh j).mp hj).1
   have fin:∃m:Nat,Low ns.length m/\atI [.int (d:Int),.int (r:Int),.int ((r ||| h:Nat):Int)] (d1:Int)=some (V.int (m:Int)):=by
    match d1,hd1 with
    | 0,_=>exact⟨d,hd,U6 (j:=0) rfl⟩
    | 1,_=>exact⟨r,hr1,U6 (j:=1) rfl⟩
    | 2,_=>exact⟨_,hr1.or' hh',U6 (j:=2) rfl⟩
    | n+3,z=>exact absurd z (by omega)
   obtain⟨m,hm,em⟩:=fin
   refine⟨l,_,B8 rfl rfl ⟨SqL.of (Sm1 k3 A9 (B1 e5 hl).symm),em,?_⟩⟩
   exact q m H3 hm k4 (L3.cast (by omega))
end
theorem Ii{b:Bool}{t1:TS}{D:Ends}{σ:St}{H:Hp}(J:St->Hp->Prop)(hJ:∀σ' H',J σ' H'->D.nx σ' H')(h1:(∀σ' H',J σ' H'->D.nx σ' H')->b=true->t1 D σ H)(h2:¬b=true->J σ H):if b=true then t1 D σ H else Xz D σ H:=by
 by_cases h:b=true
 ·rw[if_pos h];exact h1 hJ h
 ·rw[if_neg h];exact hJ _ _ (h2 h)
theorem Ho{H H':Hp}{p:Addr}{c:Int}{q:PA2}(h:D0 H q)(L:LeftAt H p c)(s:Sm [p] H H'):D0 H' q:=by
 obtain⟨x,y,e,_⟩:=L
 exact Sm1 s h (T9 h e (by intro z;cases z))
theorem Qw{xs:List V}{k:Nat}(h:k<=xs.length):Sj xs (some (k:Int)) none=xs.drop k:=by
 unfold Sj
 rw[HT.sIx_nat,HT.sIx_none,Nat.min_eq_left h]
 exact List.take_of_length_le (by rw[List.length_drop];omega)
theorem Wo{xs:List V}{k:Nat}(h:k<=xs.length):Sj xs none (some (k:Int))=xs.take k:=by
 unfold Sj
 rw[HT.sIx_nat,HT.sIx_none,Nat.min_eq_left h]
 rfl
theorem Jg{α:Type}(l:List α)(k:Nat):(l.drop k++l.take k).Perm l:=by
 have:=List.perm_append_comm (l₁:=l.drop k) (l₂:=l.take k)
 rwa [List.take_append_drop]at this
section
variable{P:Program}{w:World}{K:PySem.W.Frag}{mg:Str->Option Value}{base:Heap}
theorem V7:FnScope ["_law_left_here", "_law_some_here", "_law_cut", "_law_row"] ["_law_left_here", "_law_some_here"] (B7 s_law_handed):=⟨rfl,rfl,rfl,by decide +kernel,rfl,by decide +kernel,by decide +kernel⟩
noncomputable def Fe:Sp:=fun vs H Q _=>∃(p s:Addr) (c:Int) (ss:List Str),vs = [.ref p,.ref s]/\LeftAt H p c/\c<=900000/\H s=some (.lst (ss.map V.str))/\ss.length<=100 /\
 ∀h (rs:List Str) H',H h=none->Sm [p] H H'->(H' h=some (.lst (rs.map V.str))\/H' h=some (.tup (rs.map V.str)))->rs.Perm ss->LeftAt H' p (c+3)->Q (.ref h) H'
set_option maxHeartbeats 1000000 in
theorem Cb(T:Tx K mg):FnOk P w K mg base CX0 3 T.law_handed.f T.law_handed.fd ["_law_left_here", "_law_some_here"] Fe:=by
 have G_law_pick:FnOk P w K mg base CX0 2 T.law_pick.f T.law_pick.fd ["_law_left_here", "_law_many"] Y8:=M3 T
 have sc:=V7
 refine T.law_handed.F.ok V7 (fun vs H Q E h=>?_) (fun cdv A outer s H vs Q E hr h=>?_)
 ·obtain⟨p,s,c,ss,rfl,_⟩:=h
  rfl
 ·obtain⟨p,s,c,ss,rfl,hL,c1,hs,ln,q⟩:=h
  have nsp:s≠p:=hL.ne hs
  have lm:(ss.map V.str).length=ss.length:=List.length_map ..
  refine⟨_,(B2 (C6 (i:=2) sc.nd rfl (by first | exact Or.inl rfl | exact Or.inr rfl) (C5 T.law_pick G_law_pick (hr.mono (by decide)) (A8 (pv 0) (A8 (E4 l5 (D6 (J9 K) T.b_len J3 (A8 (pv 1) B0)) B5) B0))))
   (B2 (C6 (i:=3) sc.nd rfl (by first | exact Or.inl rfl | exact Or.inr rfl) (E4 Se (Ji (slL K) (pv 1) (Ls (pv 2)) Ng) (Ji (slL K) (pv 1) Ng (Ls (pv 2)))))
   (B2 (J8 (C4 Q3 (C5 T.law_pick G_law_pick (hr.mono (by decide)) (A8 (pv 0) (A8 B5 B0))) B5 (E3 _)) (B3 (G6 (Zn K PySem.F.plainAttrs_list PySem.F.slot_list_reverse PySem.F.type_list_reverse Ko (pv 3)))) D9)
   (B3 (C0 (G9 (ixL K) (J1 (A8 (pv 3) (A8 (Hm (Rg K) T.b_tuple V5 (A8 (pv 3) B0)) B0))) (C5 T.law_pick G_law_pick (hr.mono (by decide)) (A8 (pv 0) (A8 B5 B0))) (fun _ _=>rfl))))))),?_⟩
  refine ex1 rfl (ex1 rfl (B8 (a:=s) rfl (.inl (SqL.of hs)) (B8 rfl rfl (U5 (a:=p) (b:=c) rfl hL (by omega) (by rw[lm];omega) (by rw[lm];omega) fun cut H1 hcut k1 L1=>?_))))
  rw[lm]at hcut
  have s1:=Sm1 k1 hs nsp
  have hcl:cut<=(ss.map V.str).length:=by rw[lm];omega
  refine ex1 rfl (ex1 rfl (ex1 rfl ⟨s,ex1 rfl ⟨SqL.of s1,fun t1 ht1=>?_⟩⟩))
  rw[Qw hcl,<-List.map_drop]
  have u1:=Same.new (o:=.lst ((ss.drop cut).map V.str)) ht1
  refine ex1 rfl (ex1 rfl (ex1 rfl ⟨s,ex1 rfl ⟨SqL.of (u1 _ _ s1),fun t2 ht2=>?_⟩⟩))
  rw[Wo hcl,<-List.map_take]
  have u2:=Same.new (o:=.lst ((ss.take cut).map V.str)) ht2
  refine⟨t1,t2,B8 rfl rfl ⟨u2 _ _ A9,A9,?_,fun row hrow=>?_⟩⟩
  ·rw[List.length_map,List.length_map,List.length_drop,List.length_take,sizeLine_eq];omega
  rw[<-List.map_append]
  have u3:=Same.new (o:=.lst ((ss.drop cut++ss.take cut).map V.str)) hrow
  have k3:=(u1.trans u2).trans u3
  have hr1:H1 row=none:=(u1.trans u2).free hrow
  have e1:=L1.get
  have npr:p≠row:=B1 e1 hr1
  have hr0:H row=none:=k1.none (by simpa using npr.symm) hr1
  have L3:=L1.same k3
  have e3:(upd (upd (upd H1 t1 (.lst ((ss.drop cut).map V.str))) t2 (.lst ((ss.take cut).map V.str))) row (.lst ((ss.drop cut++ss.take cut).map V.str))) row=some (.lst ((ss.drop cut++ss.take cut).map V.str)):=A9
  generalize upd (upd (upd H1 t1 (.lst ((ss.drop cut).map V.str))) t2 (.lst ((ss.take cut).map V.str))) row (.lst ((ss.drop cut++ss.take cut).map V.str))=H3 at k3 L3 e3⊢
  refine ex1 rfl (U5 (a:=p) rfl L3 (by omega) (by decide) (by decide) fun d2 H4 hd2 k4 L4=>⟨rfl,_,rfl,?_⟩)
  have e4:=Sm1 k4 e3 npr.symm
  have k4':Sm [p] H H4:=(k1.trans k3.sm).trans k4
  refine Ii (fun σ H5=>σ = [some (.ref p),some (.ref s),some (.int (cut:Int)),some (.ref row)]/\Sm [p] H H5/\LeftAt H5 p (c+2)/\∃rs:List Str,rs.Perm ss/\H5 row=some (.lst (rs.map V.str))) ?_ ?_ ?_
  ·rintro σ H5 ⟨rfl,k5,L5,rs,pm,e5⟩
   have e5':=L5.get
   refine ex1 rfl (ex1 rfl ⟨row,ex1 rfl (.inl ⟨SqL.of e5,fun tt htt=>?_⟩)⟩)
   have u6:=Same.new (o:=.tup (rs.map V.str)) htt
   have npt:p≠tt:=B1 e5' htt
   have htt0:H tt=none:=k5.none (by simpa using npt.symm) htt
   refine⟨by show 2<=sizeLine;decide,fun l hl=>?_⟩
   have u7:=Same.new (o:=.lst [.ref row,.ref tt]) hl
   have npl:p≠l:=B1 (u6 _ _ e5') hl
   have L7:=L5.same (u6.trans u7)
   refine ex1 rfl (U5 (a:=p) rfl L7 (by omega) (by decide) (by decide) fun d3 H8 hd3 k8 L8=>?_)
   have k8':Sm [p] H H8:=(k5.trans (u6.trans u7).sm).trans k8
   have er:=Sm1 k8 (u7 _ _ (u6 _ _ e5)) npr.symm
   have et:=Sm1 k8 (u7 _ _ A9) npt.symm
   have el:=Sm1 k8 A9 npl.symm
   match d3,hd3 with
   | 0,_=>exact⟨l,_,_,_,rfl,rfl,SqL.of el,rfl,q row rs H8 hr0 k8' (.inl er) pm (L8.cast (by omega))⟩
   | 1,_=>exact⟨l,_,_,_,rfl,rfl,SqL.of el,rfl,q tt rs H8 htt0 k8' (.inr et) pm (L8.cast (by omega))⟩
   | n+2,z=>exact absurd z (by omega)
  ·intro hJ _
   refine ex1 rfl ⟨.inl ⟨rfl,_,SqL.of e4⟩,row,ex1 rfl ⟨rfl,e4,?_⟩⟩
   refine hJ _ _ ⟨rfl,k4'.updN hr0,(L4.cast (by omega)).upd npr,(ss.drop cut++ss.take cut).reverse,(List.reverse_perm _).trans (Jg ss cut),?_⟩
   rw[A9,List.map_reverse]
  ·intro _
   exact⟨rfl,k4',L4.cast (by omega),_,Jg ss cut,e4⟩
end
theorem WebAt.sm{C:Addr}{H H':Hp}{x p:Addr}{c:Int}{ns:List Str}{qs:List PA2}(h:WebAt C H x ns qs)(L:LeftAt H p c)(s:Sm [p] H H'):WebAt C H' x ns qs:=by
 obtain⟨ok,dx,a,b,c,d,kc,kd,e1,e2,e3,e4,e5,e6,e7,e8⟩:=h
 obtain⟨y,z,e0,_⟩:=id L
 have k:∀{b:Addr} {o:HO},H b=some o->o≠ .lst [.int y,.int z,.int _]->H' b=some o:=fun e n=>Sm1 s e (T9 e e0 n)
 exact⟨ok,dx,a,b,c,d,kc,kd,k e1 (by intro z;cases z),Sm1 s e2 (L.ne e2),Sm1 s e3 (L.neP e3),fun q hq=>Ho (e4 q hq) L s,k e5 (by intro z;cases z),k e6 (by intro z;cases z),fun n hn=>let⟨l,v,e⟩:=e7 n hn;⟨l,v,Sm1 s e (L.ne e)⟩,fun n hn=>let⟨l,v,e⟩:=e8 n hn;⟨l,v,Sm1 s e (L.ne e)⟩⟩
noncomputable def sd(ss:List Str):PyData:=.list (ss.map PyData.str)
theorem Jb{K:PySem.W.Frag}{H:Hp}:∀ss:List Str,Rps K H (ss.map PyData.str) (ss.map V.str)
 | []=>by simp[Rps]
 | x::r=>by
  simp only[List.map_cons,Rps,Rp]
  exact⟨_,_,rfl,rfl,Jb r⟩
theorem V2{K:PySem.W.Frag}{H:Hp}{l:Addr}{ss:List Str}(h:SqL K H l (ss.map V.str)):Rp K H (sd ss) (.ref l):=by
 unfold sd
 simp only[Rp]
 exact⟨l,_,rfl,h,Jb ss⟩
theorem Bb:∀ss:List Str,PyData.depthAll (ss.map PyData.str)<=1
 | []=>by simp[PyData.depthAll]
 | x::r=>by
  have:=Bb r
  simp only[List.map_cons,PyData.depthAll,PyData.depth]
  omega
theorem u8:∀ps:List PA2,PyData.depthAll (ps.map fun q=>pd q.2)<=3
 | []=>by simp[PyData.depthAll]
 | x::r=>by
  have:=u8 r
  have e:(pd x.2).depth<=3:=by simp[pd,PyData.depth,PyData.depthAll]
  rw[List.map_cons,PyData.depthAll]
  omega
theorem Iu:∀{ss:List Str},(∀x∈ss,PySem.PyData.strOk x=true)->PyData.canLayAll0 (ss.map PyData.str)=true
 | [],_=>rfl
 | x::r,h=>by
  rw[List.map_cons,PyData.canLayAll0,Iu fun z hz=>h z (List.mem_cons_of_mem _ hz)]
  simp[PyData.canLay0,h x (List.mem_cons_self ..)]
theorem Y6{ss:List Str}(h:∀x∈ss,I9 x=true):Pl (sd ss):=by
 refine⟨?_,?_⟩
 ·unfold sd
  rw[PyData.canLay0]
  exact Iu fun x hx=>O1 (h x hx)
 ·unfold sd
  rw[PyData.depth]
  have:=Bb ss
  omega
theorem Qo{ps:List PA2}(h:∀q∈ps,I9 q.2.1=true/\I9 q.2.2=true):Pl (.list (ps.map fun q=>pd q.2)):=by
 refine⟨?_,?_⟩
 ·rw[PyData.canLay0]
  exact Cg fun q hq=>⟨O1 (h q hq).1,O1 (h q hq).2⟩
 ·rw[PyData.depth]
  have:=u8 ps
  omega
theorem Sv{K:PySem.W.Frag}{x y:V}{d:PyData}{H:Hp}{Q:VK}(h1:Rp K H d x)(h2:Rp K H d y)(p:Pl d)(q:Q (.bl false) H):Zj K x y H Q :=
 ⟨d,d,h1,h2,p,p,by rw[PySem.SeqAt.eqv_refl d p.1];exact q⟩
section
variable{P:Program}{w:World}{K:PySem.W.Frag}{mg:Str->Option Value}{base:Heap}
theorem Ae:FnScope ["_law_found", "_law_due"] ["_law_found", "_law_due"] (B7 s_law_says):=⟨rfl,rfl,rfl,by decide +kernel,rfl,by decide +kernel,by decide +kernel⟩
noncomputable def Hf:Sp:=fun vs H Q _=>∃a b:Bool,vs = [.bl a,.bl b]/\Q (.bl (decide (a=b))) H
theorem w9(T:Tx K mg):FnOk P w K mg base CX0 1 T.law_says.f T.law_says.fd ["_law_found", "_law_due"] Hf:=by
 have sc:=Ae
 refine T.law_says.F.ok Ae (fun vs H Q E h=>?_) (fun cdv A outer s H vs Q E hr h=>?_)
 ·obtain⟨a,b,rfl,_⟩:=h
  rfl
 ·obtain⟨a,b,rfl,q⟩:=h
  refine⟨_,(B3 (C0 (K6 (D6 (J5 K) T.b_isinstance B9 (A8 (pv 0) (A8 (S5 T.b_bool Di) B0))) (K1 (C9 Q3 (pv 0) (pv 1) (E3 _)))))),?_⟩
  refine ex1 rfl ⟨_, "bool",_,true,rfl,.bl a,rfl,true,rfl,?_⟩
  refine Pw ⟨_,rfl,_,rfl,rfl,?_⟩
  have e:decide (V.bl a=V.bl b)=decide (a=b):=by cases a<;>cases b<;>decide
  rw[e]
  exact q
end
noncomputable def Du(qs:List PA2)(ss:List Str)(n:Str):Prop:=∀x,Y4 qs x n->∃m∈ss,Y4 qs m x
noncomputable def Y9(K:PySem.W.Frag)(C:Addr):Sp:=fun vs H Q _=>∃(x a:Addr) (ss ns:List Str) (qs:List PA2),vs = [.ref x,.ref a]/\WebAt C H x ns qs/\Sqs K H a (ss.map V.str)/\(∀n∈ss,n∈ns)/\ss.length<=100 /\
 ∀l (f:Str->Bool) H',H l=none->Same H H'->(∀n∈ns,f n=true↔Du qs ss n)->H' l=some (.lst ((ns.filter f).map V.str))->Q (.ref l) H'
section
variable{P:Program}{w:World}{K:PySem.W.Frag}{mg:Str->Option Value}{base:Heap}
theorem Bj:FnScope ["web", "some", "hit"] ["web", "some"] (B7 s_kept_by):=⟨rfl,rfl,rfl,by decide +kernel,rfl,by decide +kernel,by decide +kernel⟩
theorem Ba(T:Tx K mg):FnOk P w K mg base CX0 4 T.kept_by.f T.kept_by.fd ["web", "some"] (Y9 K T.CWeb):=by
 have G_struck_by_any:FnOk P w K mg base CX0 3 T.struck_by_any.f T.struck_by_any.fd ["web", "some"] (j0 K T.CWeb C3):=G0 T
 have G_Web_all_names:FnOk P w K mg base CX0 1 T.mWeb_all_names.f T.mWeb_all_names.fd ["self"] (J0 T.CWeb):=F0 T
 have G_Web_strikers:FnOk P w K mg base CX0 2 T.mWeb_strikers.f T.mWeb_strikers.fd ["self", "name"] (P3 T.CWeb):=M8 T
 have sc:=Bj
 refine T.kept_by.F.ok Bj (fun vs H Q E h=>?_) (fun cdv A outer s H vs Q E hr h=>?_)
 ·obtain⟨x,a,ss,ns,qs,rfl,_⟩:=h
  rfl
 ·obtain⟨x,a,ss,ns,qs,rfl,hW,hS,hM,hl,k⟩:=h
  refine⟨_,(B2 (C6 (i:=2) sc.nd rfl (by first | exact Or.inl rfl | exact Or.inr rfl) (C5 T.struck_by_any G_struck_by_any (hr.mono (by decide)) (A8 (pv 0) (A8 (pv 1) B0))))
   (B3 (C0 (Q9 (N':=["name", "hit", "web"]) (cap:=[none,some 2,some 0]) (cl:=[("web",_),("hit",_)]) (K2 ⟨⟨rfl,rfl,rfl,rfl⟩,⟨⟨rfl,rfl,rfl,rfl⟩,trivial⟩⟩ ⟨rfl,⟨rfl,trivial⟩⟩) rfl (piL K (W6 (pv 0) T.clWeb T.mWeb_all_names.m G_Web_all_names (hr.mono (by decide)) T.mWeb_all_names.b .nil Y7)) (fun _ _ _ _=>by exact⟨(pgC 0),(P2 (G7 (D6 (T0 K) T.b_all T6 (A8 (Q9 (N':=["striker", "hit"]) (cap:=[none,some 1]) (cl:=[("hit",_)]) (K2 ⟨⟨rfl,rfl,rfl,rfl⟩,trivial⟩ ⟨rfl,trivial⟩) rfl (piL K (c9 (pv 2) T.clWeb T.mWeb_strikers.m G_Web_strikers (hr.mono (by decide)) T.mWeb_strikers.b .nil Y7 (A8 (pv 0) B0))) (fun _ _ _ _=>by exact⟨(pgC 0),E9,(C9 (V3 K) (pv 0) (pv 1) rfl)⟩)) B0)))),(pv 0)⟩))))),?_⟩
  refine ex1 rfl (ex1 rfl (Kd (a:=x) (b:=a) (c:=ss) (d:=ns) (e:=qs) rfl hW hS hM fun l hs H1 hl0 s1 e1 m1 _ _ _=>?_))
  dsimp only[Me,Oy,K7,Ro,tCB,X7,Hk]
  have W1:=hW.same s1
  obtain⟨ok,dx,a1,b,c,d,kc,kd,e2,_⟩:=id W1
  refine ex1 rfl ⟨x,dx,ex1 rfl ⟨e2,rfl,x,ns,qs,rfl,W1,fun l2 hl2=>?_⟩⟩
  have s2:=Same.new (o:=.lst (ns.map V.str)) hl2
  have f2:(upd H1 l2 (.lst (ns.map V.str))) l2=some (.lst (ns.map V.str)):=A9
  generalize upd H1 l2 (.lst (ns.map V.str))=H2 at s2 f2⊢
  refine⟨l2,rfl,⟨_,SqL.of f2⟩,fun D hD=>?_⟩
  have hlen:=ok.len
  refine J4 (asL (K:=K) (SqL.of f2)) (fun i σ H3=>(∃v0,σ = [v0,some (.ref l),some (.ref x)])/\Same H2 H3/\H3 D=some (.lst (((ns.take i).filter fun n=>(B4 qs n).all fun y=>decide (y∈hs)).map V.str)))
   ⟨⟨_,rfl⟩,Same.new hD,A9⟩ (fun i σ H1 _ ⟨_,s1,_⟩=>s1.at l2) ?_ ?_
  ·rintro i σ H3 v N hx ⟨⟨v0,rfl⟩,s3,e3⟩ hN
   rw[List.getElem?_map]at hx
   cases hy:ns[i]? with
   | none=>rw[hy]at hx;cases hx
   | some n =>
    rw[hy]at hx
    cases hx
    have hn:n∈ns:=List.mem_of_getElem? hy
    have W3:=(W1.same s2).same s3
    refine ex1 rfl ⟨x,dx,ex1 rfl ⟨s3 _ _ (s2 _ _ e2),rfl,ex1 rfl ⟨x,n,ns,qs,rfl,W3,hn,fun p hp=>?_⟩⟩⟩
    have s4:=Same.new (o:=.lst ((B4 qs n).map V.str)) hp
    have f4:(upd H3 p (.lst ((B4 qs n).map V.str))) p=some (.lst ((B4 qs n).map V.str)):=A9
    generalize upd H3 p (.lst ((B4 qs n).map V.str))=H4 at s4 f4⊢
    have hDp:D≠p:=B1 e3 hp
    have e4:=s4 _ _ e3
    have hit4:=s4 _ _ (s3 _ _ (s2 _ _ e1))
    refine⟨p,rfl,⟨_,SqL.of f4⟩,fun D2 hD2=>?_⟩
    have s24:Same H2 H4:=s3.trans s4
    refine J4 (asL (K:=K) (SqL.of f4)) (fun j σ H5=>(∃v0,σ = [v0,some (.ref l)])/\Same H4 H5/\H5 D2=some (.lst (((B4 qs n).take j).map fun y=>V.bl (decide (y∈hs)))))
     ⟨⟨_,rfl⟩,Same.new hD2,A9⟩ (fun j σ H5 _ ⟨_,s5,_⟩=>s5.at p) ?_ ?_
    ·rintro j σ H5 v N' hx ⟨⟨v0,rfl⟩,s5,e5⟩ hN'
     rw[List.getElem?_map]at hx
     cases hz:(B4 qs n)[j]? with
     | none=>rw[hz]at hx;cases hx
     | some y =>
      rw[hz]at hx
      cases hx
      refine R0 ?_
      have hj:=(List.getElem?_eq_some_iff.mp hz).1
      have:=S9 qs n
      have:=ok.lenq
      refine ex1 rfl (ex1 rfl (I0 (.inl (SqL.of (s5 _ _ hit4))) ⟨_,e5,?_,hN' _ _ ⟨⟨_,rfl⟩,s5.upd hD2,?_⟩⟩))
      ·rw[List.length_map,List.length_take,sizeLine_eq];omega
      ·rw[A9,C1 hz,List.map_append];rfl
    ·rintro σ H5 ⟨_,s5,e5⟩
     rw[List.length_map,List.take_length]at e5
     refine⟨D2,(B4 qs n).map fun y=>decide (y∈hs),rfl,SqL.of (by rw[e5,List.map_map];rfl),ex1 rfl ?_⟩
     rw[List.all_map]
     have e6:=s5 _ _ e4
     have hi:=(List.getElem?_eq_some_iff.mp hy).1
     have hf:((ns.take (i+1)).filter fun n=>(B4 qs n).all fun y=>decide (y∈hs)) =((ns.take i).filter fun n=>(B4 qs n).all fun y=>decide (y∈hs)) ++(if((B4 qs n).all fun y=>decide (y∈hs))=true then [n]else []):=by
      rw[C1 hy,List.filter_append,List.filter_cons,List.filter_nil]
     refine R1 (fun c=>?_) (fun c=>?_)
     ·refine ex1 rfl ⟨_,e6,?_,hN _ _ ⟨⟨_,rfl⟩,(s3.trans (s4.trans s5)).upd hD,?_⟩⟩
      ·rw[List.length_map,sizeLine_eq]
       have:=(List.filter_sublist (l:=ns.take i) (p:=fun n=>(B4 qs n).all fun y=>decide (y∈hs))).length_le
       rw[List.length_take]at this
       omega
      ·rw[A9,hf,if_pos (show((B4 qs n).all fun y=>decide (y∈hs))=true from c),List.map_append];rfl
     ·refine hN _ _ ⟨⟨_,rfl⟩,s3.trans (s4.trans s5),?_⟩
      rw[hf,if_neg (show ¬((B4 qs n).all fun y=>decide (y∈hs))=true from c),List.append_nil];exact e6
  ·rintro σ H3 ⟨_,s3,e3⟩
   rw[List.length_map,List.take_length]at e3
   refine k D _ H3 ((s1.trans s2).free hD) ((s1.trans s2).trans s3) (fun n hn=>?_) e3
   rw[List.all_eq_true]
   constructor
   ·intro h y hy
    obtain⟨m,hm,h'⟩:=(m1 y).mp (of_decide_eq_true (h y (strk_strikers.mpr hy)))
    exact⟨m,hm,strk_struck.mp h'⟩
   ·intro h y hy
    obtain⟨m,hm,h'⟩:=h y (strk_strikers.mp hy)
    exact decide_eq_true ((m1 y).mpr ⟨m,hm,strk_struck.mpr h'⟩)
end
theorem t7:∀a b:List Str,PyData.eqvAll (a.map PyData.str) (b.map PyData.str)=decide (a=b)
 | [],[]=>by simp[PyData.eqvAll]
 | [],_::_=>by simp[PyData.eqvAll]
 | _::_,[]=>by simp[PyData.eqvAll]
 | x::a,y::b=>by
  rw[List.map_cons,List.map_cons,PyData.eqvAll,t7 a b,PyData.eqv]
  by_cases h1:x=y
  ·by_cases h2:a=b
   ·rw[decide_eq_true h2,h1,h2];simp
   ·rw[decide_eq_false h2];simp[h2]
  ·simp[h1]
theorem Ot(a b:List Str):PyData.eqv (sd a) (sd b)=decide (a=b):=by
 unfold sd
 rw[PyData.eqv,t7]
noncomputable def Ao(ns:List Str)(qs:List PA2)(ss:List Str):Prop:=Ij qs ss/\∀n∈ns,n∈ss↔Du qs ss n
noncomputable def Q6(ns:List Str)(qs:List PA2)(ss:List Str):Prop:=Q0 qs ss/\∀n∈ns,n∈ss\/∃m∈ss,Y4 qs m n
noncomputable def y4(K:PySem.W.Frag)(C:Addr)(f:List Str->List PA2->List Str->Prop):Sp:=fun vs H Q _=>∃(x a:Addr) (ss ns:List Str) (qs:List PA2),vs = [.ref x,.ref a]/\WebAt C H x ns qs/\Sqs K H a (ss.map V.str)/\(∀n∈ss,n∈ns)/\ss.length<=100/\ss.Nodup/\(∀n∈ns,I9 n=true) /\
 ∀(b:Bool) H',(b=true↔f ns qs ss)->Same H H'->Q (.bl b) H'
section
variable{P:Program}{w:World}{K:PySem.W.Frag}{mg:Str->Option Value}{base:Heap}
theorem Ag:FnScope ["web", "some"] ["web", "some"] (B7 s_is_whole):=⟨rfl,rfl,rfl,by decide +kernel,rfl,by decide +kernel,by decide +kernel⟩
theorem Ab(T:Tx K mg):FnOk P w K mg base CX0 6 T.is_whole.f T.is_whole.fd ["web", "some"] (y4 K T.CWeb Ao):=by
 have G_stands:FnOk P w K mg base CX0 5 T.stands.f T.stands.fd ["web", "some"] (O0 K T.CWeb fun _=>Ij):=Fm T
 have G_kept_by:FnOk P w K mg base CX0 4 T.kept_by.f T.kept_by.fd ["web", "some"] (Y9 K T.CWeb):=Ba T
 have sc:=Ag
 refine T.is_whole.F.ok Ag (fun vs H Q E h=>?_) (fun cdv A outer s H vs Q E hr h=>?_)
 ·obtain⟨x,a,ss,ns,qs,rfl,_⟩:=h
  rfl
 ·obtain⟨x,a,ss,ns,qs,rfl,hW,hS,hM,hl,nd,nm,k⟩:=h
  refine⟨_,(B3 (C0 (K6 (C5 T.stands G_stands (hr.mono (by decide)) (A8 (pv 0) (A8 (pv 1) B0))) (K1 (C9 (Hr K hr.units) (C5 T.kept_by G_kept_by (hr.mono (by decide)) (A8 (pv 0) (A8 (pv 1) B0))) (D6 (Pb K) T.b_sorted K3 (A8 (pv 1) B0)) (E3 _)))))),?_⟩
  refine ex1 rfl (ex1 rfl (Pk (a:=x) (b:=a) (c:=ss) (d:=ns) (e:=qs) rfl hW hS hM hl fun b H1 hb s1=>⟨b,rfl,?_⟩))
  obtain⟨ok,_⟩:=id hW
  refine R1 (fun c=>?_) (fun c=>?_)
  ·refine⟨_,rfl,_,rfl,x,a,ss,ns,qs,rfl,hW.same s1,(s1.at a).seq hS,hM,hl,fun l f H2 hl2 s2 hf e2=>?_⟩
   refine⟨_,rfl,a,ss,rfl,((s1.trans s2).at a).seq hS,fun l3 ss' hl3 pm srt=>?_⟩
   have s3:=Same.new (o:=.lst (ss'.map V.str)) hl3
   have hsub:(ns.filter f).Sublist ns:=List.filter_sublist
   refine⟨_,_,V2 (SqL.of (s3 _ _ e2)),V2 (SqL.of A9),Y6 fun y hy=>nm y (hsub.mem hy),Y6 fun y hy=>nm y (hM y (pm.mem_iff.mp hy)),?_⟩
   rw[Ot]
   refine k _ _ ?_ ((s1.trans s2).trans s3)
   rw[decide_eq_true_iff]
   constructor
   ·intro e
    refine⟨hb.mp c,fun n hn=>?_⟩
    rw[<-hf n hn,<-pm.mem_iff,<-e,List.mem_filter]
    exact⟨fun h=>h.2,fun h=>⟨hn,h⟩⟩
   ·rintro⟨_,h⟩
    refine O5 (ok.srt.sublist hsub) srt ?_
    refine(List.perm_ext_iff_of_nodup (hsub.nodup ok.nd) (pm.nodup_iff.mpr nd)).mpr fun y=>?_
    rw[List.mem_filter,pm.mem_iff]
    constructor
    ·rintro⟨hy,hfy⟩
     exact(h y hy).mpr ((hf y hy).mp hfy)
    ·intro hy
     exact⟨hM y hy,(hf y (hM y hy)).mpr ((h y (hM y hy)).mp hy)⟩
  ·exact k false H1 ⟨fun z=>(by cases z),fun h=>absurd (hb.mpr h.1) c⟩ s1
theorem T4:FnScope ["web", "some", "hit"] ["web", "some"] (B7 s_is_outright):=⟨rfl,rfl,rfl,by decide +kernel,rfl,by decide +kernel,by decide +kernel⟩
theorem As(T:Tx K mg):FnOk P w K mg base CX0 5 T.is_outright.f T.is_outright.fd ["web", "some"] (O0 K T.CWeb Q6):=by
 have G_struck_by_any:FnOk P w K mg base CX0 3 T.struck_by_any.f T.struck_by_any.fd ["web", "some"] (j0 K T.CWeb C3):=G0 T
 have G_is_quiet:FnOk P w K mg base CX0 4 T.is_quiet.f T.is_quiet.fd ["web", "some"] (Cm K T.CWeb fun _=>S8):=T7 T
 have G_Web_all_names:FnOk P w K mg base CX0 1 T.mWeb_all_names.f T.mWeb_all_names.fd ["self"] (J0 T.CWeb):=F0 T
 have sc:=T4
 refine T.is_outright.F.ok T4 (fun vs H Q E h=>?_) (fun cdv A outer s H vs Q E hr h=>?_)
 ·obtain⟨x,a,ss,ns,qs,rfl,_⟩:=h
  rfl
 ·obtain⟨x,a,ss,ns,qs,rfl,hW,hS,hM,hl,k⟩:=h
  refine⟨_,(B2 (C6 (i:=2) sc.nd rfl (by first | exact Or.inl rfl | exact Or.inr rfl) (C5 T.struck_by_any G_struck_by_any (hr.mono (by decide)) (A8 (pv 0) (A8 (pv 1) B0))))
   (B3 (C0 (K6 (C5 T.is_quiet G_is_quiet (hr.mono (by decide)) (A8 (pv 0) (A8 (pv 1) B0))) (K1 (D6 (T0 K) T.b_all T6 (A8 (Q9 (N':=["name", "some", "hit"]) (cap:=[none,some 1,some 2]) (cl:=[("some",_),("hit",_)]) (K2 ⟨⟨rfl,rfl,rfl,rfl⟩,⟨⟨rfl,rfl,rfl,rfl⟩,trivial⟩⟩ ⟨rfl,⟨rfl,trivial⟩⟩) rfl (piL K (W6 (pv 0) T.clWeb T.mWeb_all_names.m G_Web_all_names (hr.mono (by decide)) T.mWeb_all_names.b .nil Y7)) (fun _ _ _ _=>by exact⟨(pgC 0),E9,(Uo (C9 (V3 K) (pv 0) (pv 1) rfl) (K1 (C9 (V3 K) (pv 0) (pv 2) rfl)))⟩)) B0))))))),?_⟩
  refine ex1 rfl (ex1 rfl (Kd (a:=x) (b:=a) (c:=ss) (d:=ns) (e:=qs) rfl hW hS hM fun l hs H1 hl0 s1 e1 m1 _ _ _=>?_))
  dsimp only[Me,Oy,K7,Ro,tCB,X7,Hk]
  have W1:=hW.same s1
  refine ex1 rfl (ex1 rfl (Pk (a:=x) (b:=a) (c:=ss) (d:=ns) (e:=qs) rfl W1 ((s1.at a).seq hS) hM hl fun H2 s2=>⟨S8 qs ss,rfl,?_⟩))
  have W2:=W1.same s2
  have S2:=((s1.trans s2).at a).seq hS
  refine R1 (fun c=>?_) (fun c=>?_)
  ·obtain⟨ok,dx,a1,b,c',d,kc,kd,e2,_⟩:=id W2
   refine⟨_,rfl,x,dx,_,rfl,e2,rfl,x,ns,qs,rfl,W2,fun l2 hl2=>?_⟩
   have s3:=Same.new (o:=.lst (ns.map V.str)) hl2
   have f3:(upd H2 l2 (.lst (ns.map V.str))) l2=some (.lst (ns.map V.str)):=A9
   generalize upd H2 l2 (.lst (ns.map V.str))=H3 at s3 f3⊢
   have hit3:=s3 _ _ (s2 _ _ e1)
   have S3:=(s3.at a).seq S2
   refine⟨l2,rfl,⟨_,SqL.of f3⟩,fun D hD=>?_⟩
   have hlen:=ok.len
   refine J4 (asL (K:=K) (SqL.of f3)) (fun i σ H4=>(∃v0,σ = [v0,some (.ref a),some (.ref l)])/\Same H3 H4/\H4 D=some (.lst ((ns.take i).map fun n=>V.bl (decide (n∈ss)||decide (n∈hs)))))
    ⟨⟨_,rfl⟩,Same.new hD,A9⟩ (fun i σ H1 _ ⟨_,s1,_⟩=>s1.at l2) ?_ ?_
   ·rintro i σ H4 v N hx ⟨⟨v0,rfl⟩,s4,e4⟩ hN
    rw[List.getElem?_map]at hx
    cases hy:ns[i]? with
    | none=>rw[hy]at hx;cases hx
    | some n =>
     rw[hy]at hx
     cases hx
     refine R0 ?_
     have hi:=(List.getElem?_eq_some_iff.mp hy).1
     refine⟨_,rfl,_,rfl,I0 ((s4.at a).seq S3) ⟨_,rfl,?_⟩⟩
     have fin:∀bb:Bool,bb =(decide (n∈ss)||decide (n∈hs))->∃ys,H4 D=some (.lst ys)/\ys.length<sizeLine/\N ([v0,some (.ref a),some (.ref l)].set 0 (some (.str n))) (upd H4 D (.lst (ys ++ [.bl bb]))):=fun bb e=>by
      refine⟨_,e4,?_,hN _ _ ⟨⟨_,rfl⟩,s4.upd hD,?_⟩⟩
      ·rw[List.length_map,List.length_take,sizeLine_eq];omega
      ·rw[A9,C1 hy,List.map_append,e];rfl
     refine R1 (fun c1=>?_) (fun c1=>?_)
     ·exact fin true (by rw[c1];rfl)
     ·refine⟨_,rfl,_,rfl,I0 (.inl (SqL.of (s4 _ _ hit3))) (fin _ ?_)⟩
      rw[Bool.eq_false_iff.mpr c1,Bool.false_or]
   ·rintro σ H4 ⟨_,s4,e4⟩
    rw[List.length_map,List.take_length]at e4
    refine⟨D,ns.map fun n=>(decide (n∈ss)||decide (n∈hs)),rfl,SqL.of (by rw[e4,List.map_map];rfl),?_⟩
    refine k _ _ ?_ (((s1.trans s2).trans s3).trans s4)
    rw[List.all_map,List.all_eq_true]
    have m1':∀n,n∈hs↔∃m∈ss,Y4 qs m n:=fun n=>by
     rw[m1]
     exact⟨fun⟨m,h1,h2⟩=>⟨m,h1,strk_struck.mp h2⟩,fun⟨m,h1,h2⟩=>⟨m,h1,strk_struck.mpr h2⟩⟩
    constructor
    ·intro h
     refine⟨quietB_iff.mp c,fun n hn=>?_⟩
     have h:=h n hn
     rcases Bool.or_eq_true _ _▸(show(decide (n∈ss)||decide (n∈hs))=true from h)with z | z
     ·exact .inl (of_decide_eq_true z)
     ·exact .inr ((m1' n).mp (of_decide_eq_true z))
    ·rintro⟨_,h⟩ n hn
     show(decide (n∈ss)||decide (n∈hs))=true
     rw[Bool.or_eq_true]
     exact(h n hn).imp decide_eq_true fun z=>decide_eq_true ((m1' n).mpr z)
  ·exact k false H2 ⟨fun z=>(by cases z),fun h=>absurd (quietB_iff.mpr h.1) c⟩ (s1.trans s2)
end
noncomputable def WL(H:Hp)(l:Addr)(ks:List (Str×Str)):Prop:=∃ps:List PA2,H l=some (.lst (E8 ps))/\(∀q∈ps,D0 H q)/\(ps.map fun q=>q.2)=ks
theorem WL.nil{H:Hp}{l:Addr}:WL (upd H l (.lst [])) l []:=⟨[],A9,fun q h=>absurd h (List.not_mem_nil),rfl⟩
theorem WL.same{H H':Hp}{l:Addr}{ks:List (Str×Str)}(h:WL H l ks)(s:Same H H'):WL H' l ks:=let⟨ps,e,p,k⟩:=h;⟨ps,s _ _ e,E6 s p,k⟩
theorem WL.get{H:Hp}{l:Addr}{ks:List (Str×Str)}(h:WL H l ks):∃xs,H l=some (.lst xs)/\xs.length=ks.length:=let⟨ps,e,_,k⟩:=h;⟨_,e,by rw[<-k,List.length_map];unfold E8;rw[List.length_map]⟩
theorem WL.put{H:Hp}{l t:Addr}{ks:List (Str×Str)}{x y:Str}(h:WL H l ks)(ht:H t=none):∃xs,(upd H t (.tup [.str x,.str y])) l=some (.lst xs)/\xs.length=ks.length/\WL (upd (upd H t (.tup [.str x,.str y])) l (.lst (xs ++ [.ref t]))) l (ks ++ [(x,y)]):=by
 obtain⟨ps,e,p,k⟩:=h
 have n:l≠t:=B1 e ht
 refine⟨E8 ps,by rw[B6 n];exact e,by rw[<-k,List.length_map];unfold E8;rw[List.length_map],ps ++ [(t,x,y)],?_,fun q hq=>?_,by rw[List.map_append,k];rfl⟩
 ·rw[A9];unfold E8;rw[List.map_append];rfl
 ·unfold D0
  rcases List.mem_append.mp hq with z | z
  ·rw[B6 (T9 (p q z) e (by intro z;cases z)),B6 (B1 (p q z) ht)];exact p q z
  ·rw[List.mem_singleton.mp z,B6 n.symm];exact A9
noncomputable def K0(ss hs:List Str)(n:Str):Str:=if n∈ss then "in" else if n∈hs then "out" else "open"
noncomputable def U1(K:PySem.W.Frag)(C:Addr):Sp:=fun vs H Q _=>∃(x a:Addr) (ss ns:List Str) (qs:List PA2),vs = [.ref x,.ref a]/\WebAt C H x ns qs/\Sqs K H a (ss.map V.str)/\(∀n∈ss,n∈ns) /\
 ∀l (hs:List Str) H',H l=none->Same H H'->(∀y,y∈hs↔∃n∈ss,y∈C3 qs n)->WL H' l (ns.map fun n=>(n,K0 ss hs n))->Q (.ref l) H'
section
variable{P:Program}{w:World}{K:PySem.W.Frag}{mg:Str->Option Value}{base:Heap}
theorem Am:FnScope ["web", "some", "hit", "words", "name"] ["web", "some"] (B7 s_words_by):=⟨rfl,rfl,rfl,by decide +kernel,rfl,by decide +kernel,by decide +kernel⟩
theorem r6(T:Tx K mg):FnOk P w K mg base CX0 4 T.words_by.f T.words_by.fd ["web", "some"] (U1 K T.CWeb):=by
 have G_struck_by_any:FnOk P w K mg base CX0 3 T.struck_by_any.f T.struck_by_any.fd ["web", "some"] (j0 K T.CWeb C3):=G0 T
 have G_Web_all_names:FnOk P w K mg base CX0 1 T.mWeb_all_names.f T.mWeb_all_names.fd ["self"] (J0 T.CWeb):=F0 T
 have sc:=Am
 refine T.words_by.F.ok Am (fun vs H Q E h=>?_) (fun cdv A outer s H vs Q E hr h=>?_)
 ·obtain⟨x,a,ss,ns,qs,rfl,_⟩:=h
  rfl
 ·obtain⟨x,a,ss,ns,qs,rfl,hW,hS,hM,k⟩:=h
  refine⟨_,(B2 (C6 (i:=2) sc.nd rfl (by first | exact Or.inl rfl | exact Or.inr rfl) (C5 T.struck_by_any G_struck_by_any (hr.mono (by decide)) (A8 (pv 0) (A8 (pv 1) B0))))
   (B2 (C6 (i:=3) sc.nd rfl (by first | exact Or.inl rfl | exact Or.inr rfl) (J1 B0))
   (B2 (M9 PassesOwn.never rfl (piL K (W6 (pv 0) T.clWeb T.mWeb_all_names.m G_Web_all_names (hr.mono (by decide)) T.mWeb_all_names.b .nil Y7)) (E1 (i:=4) sc.nd rfl (by first | exact Or.inl rfl | exact Or.inr rfl))
   (B3 (J8 (C4 (V3 K) (pv 4) (pv 1) rfl) (B3 (G6 (Jh K PySem.F.plainAttrs_list PySem.F.slot_list_append PySem.F.type_list_append G8 (pv 3) (A8 (O2 (A8 (pv 4) (A8 O7 B0))) B0)))) (B3 (J8 (C4 (V3 K) (pv 4) (pv 2) rfl) (B3 (G6 (Jh K PySem.F.plainAttrs_list PySem.F.slot_list_append PySem.F.type_list_append G8 (pv 3) (A8 (O2 (A8 (pv 4) (A8 O7 B0))) B0)))) (B3 (G6 (Jh K PySem.F.plainAttrs_list PySem.F.slot_list_append PySem.F.type_list_append G8 (pv 3) (A8 (O2 (A8 (pv 4) (A8 O7 B0))) B0)))))))))
   (B3 (C0 (pv 3)))))),?_⟩
  refine ex1 rfl (ex1 rfl (Kd (a:=x) (b:=a) (c:=ss) (d:=ns) (e:=qs) rfl hW hS hM fun l hs H1 hl0 s1 e1 m1 _ _ _=>?_))
  refine⟨Nat.zero_le _,fun l2 hl2=>?_⟩
  have s2:=Same.new (o:=.lst []) hl2
  have W2:=hW.same (s1.trans s2)
  have WA:WL (upd H1 l2 (.lst [])) l2 []:=WL.nil
  generalize upd H1 l2 (.lst [])=H2 at s2 W2 WA⊢
  obtain⟨ok,dx,a1,b,c,d,kc,kd,e2,_⟩:=id W2
  have hlen:=ok.len
  refine ex1 rfl ⟨x,dx,ex1 rfl ⟨e2,rfl,x,ns,qs,rfl,W2,fun l3 hl3=>?_⟩⟩
  have s3:=Same.new (o:=.lst (ns.map V.str)) hl3
  have f3:(upd H2 l3 (.lst (ns.map V.str))) l3=some (.lst (ns.map V.str)):=A9
  have n23:l3≠l2:=let⟨_,e,_⟩:=WA.get;(B1 e hl3).symm
  have W3:=WA.same s3
  generalize upd H2 l3 (.lst (ns.map V.str))=H3 at s3 f3 W3⊢
  have S1:=(s1.at a).seq hS
  refine⟨l3,rfl,⟨_,SqL.of f3⟩,U2 (asL (SqL.of f3)) (fun i σ H4=>(∃v4,σ = [some (.ref x),some (.ref a),some (.ref l),some (.ref l2),v4])/\Same H1 H4/\H4 l3=some (.lst (ns.map V.str))/\WL H4 l2 ((ns.take i).map fun n=>(n,K0 ss hs n))) ?_ ?_ ?_ ?_⟩
  ·exact⟨⟨_,rfl⟩,s2.trans s3,f3,W3⟩
  ·rintro j σ H5 _ ⟨_,_,f5,_⟩ o e
   exact(f3.symm.trans e)▸f5
  ·rintro i σ H4 y hy ⟨⟨v4,rfl⟩,s4,f4,W4⟩ D hD _
   rw[List.getElem?_map]at hy
   obtain⟨n,hn,rfl⟩:=Option.map_eq_some_iff.mp hy
   have hi:=(List.getElem?_eq_some_iff.mp hn).1
   have app:∀wd:Str,K0 ss hs n=wd->Xp (tBM K "list" No (Hc 3) (X7 (Zb (X7 (Hc 4) (X7 (tC (V.str wd)) Hk))) Hk)) D [some (.ref x),some (.ref a),some (.ref l),some (.ref l2),some (.str n)] H4:=fun wd ew=>by
    obtain⟨xs,e4,zBb⟩:=W4.get
    refine ex1 rfl ⟨.inl ⟨rfl,_,SqL.of e4⟩,ex1 rfl ⟨by show 2<=sizeLine;decide,fun t ht=>?_⟩⟩
    obtain⟨ys,e5,len5,W5⟩:=W4.put (x:=n) (y:=wd) ht
    refine⟨l2,_,_,rfl,rfl,e5,?_,hD _ _ ⟨⟨_,rfl⟩,(s4.trans (Same.new ht)).upd hl2,?_,?_⟩⟩
    ·rw[len5,List.length_map,List.length_take,sizeLine_eq];omega
    ·rw[B6 n23,B6 (B1 f4 ht)];exact f4
    ·rw[C1 hn,List.map_append,List.map_cons,ew];exact W5
   refine ex1 rfl (ex1 rfl (I0 ((s4.at a).seq S1) ⟨_,rfl,R1 (fun h=>app _ ?_) (fun h=>?_)⟩))
   ·unfold K0;rw[if_pos (of_decide_eq_true h)]
   have h:=fun z=>h (decide_eq_true z)
   refine ex1 rfl (ex1 rfl (I0 (.inl (SqL.of (s4 _ _ e1))) ⟨_,rfl,R1 (fun h'=>app _ ?_) (fun h'=>app _ ?_)⟩))
   ·unfold K0;rw[if_neg h,if_pos (of_decide_eq_true h')]
   ·unfold K0;rw[if_neg h,if_neg fun z=>h' (decide_eq_true z)]
  ·rintro σ H4 ⟨⟨v4,rfl⟩,s4,f4,W4⟩
   rw[List.length_map,List.take_length]at W4
   exact⟨_,rfl,k l2 hs H4 (s1.free hl2) (s1.trans s4) m1 W4⟩
end
theorem Oq{J:It}{xs:List V}{a D:Addr}{H:Hp}(as:AsSeq J xs a H){te:TE}{g:TG}{σ:St}{Q:St->Hp->Prop}(f:V->V)(len:xs.length<=1000)(hD:H D=none)(Pσ:St->Prop)(h0:Pσ σ)
  (step:∀(i:Nat) (σ:St) (G:Hp) (x:V) (M:St->VK),xs[i]?=some x->Pσ σ->Same H G->(∀σ2 G',Pσ σ2->Same G G'->M σ2 (f x) G')->g x σ G fun σ2 H2=>te σ2 H2 (M σ2))
  (q:∀σ G,Same H G->G D=some (.lst (xs.map f))->Q σ G):Aq g De (Df D te) J σ (upd H D (.lst [])) Q:=by
 refine J4 as (fun i σ G=>Pσ σ/\Same H G/\G D=some (.lst ((xs.take i).map f))) ⟨h0,Same.new hD,A9⟩ (fun i σ G _ h=>h.2.1.at a) ?_ ?_
 ·rintro i σ G x N hx ⟨hσ,sG,eG⟩ hN
  refine step i σ G x (fun σ2 y H1=>∃ys,H1 D=some (.lst ys)/\ys.length<sizeLine/\N σ2 (upd H1 D (.lst (ys ++ [y])))) hx hσ sG fun σ2 G' h2 s'=>?_
  refine⟨_,s' _ _ eG,by rw[List.length_map,List.length_take,sizeLine_eq];omega,hN _ _ ⟨h2,(sG.trans s').upd hD,?_⟩⟩
  rw[A9,C1 hx,List.map_append]
  rfl
 ·rintro σ G ⟨hσ,sG,eG⟩
  rw[List.take_length]at eG
  exact q σ G sG eG
theorem Nj{sq sr:Hp->Addr->List V->Prop}{l d:Addr}{xs ys:List V}(n:xs.length=ys.length){g:TG}{tc:TT}{em:TEm}{σ:St}{H:Hp}{Q:St->Hp->Prop}(Pv:Nat->St->Hp->Prop)(h0:Pv 0 σ H)(hk:∀i σ H,Pv i σ H->sq H l xs/\sr H d ys)
  (hs:∀i σ H T x y (N:St->Hp->Prop),xs[i]?=some x->ys[i]?=some y->Pv i σ H->H T=none->(∀σ' H',Pv (i+1) σ' H'->N σ' H')->g (.ref T) σ (upd H T (.tup [x,y])) fun σ2 H2=>tc σ2 H2 fun b H3=>if b=true then em σ2 H3 N else N σ2 H3)
  (hd:∀σ H,Pv xs.length σ H->Q σ H):Aq g tc em (Uf sq sr l d) σ H Q:=by
 refine Be (n:=xs.length) Pv h0 (fun i σ H hi p=>?_) (fun σ H p=>?_) (fun i σ H v H' N hi p y hN=>?_) hd
 ·exact⟨xs,ys,_,_,(hk i σ H p).1,(hk i σ H p).2,by omega,List.getElem?_eq_getElem hi,List.getElem?_eq_getElem (by omega)⟩
 ·exact⟨xs,ys,(hk _ σ H p).1,(hk _ σ H p).2,by omega,rfl⟩
 ·obtain⟨T,x,z,rfl,hT,rfl,e1,e2⟩:=y
  exact hs i σ H T x z N (e1 xs (hk i σ H p).1) (e2 ys (hk i σ H p).2) p hT hN
noncomputable def Given(H:Hp)(d:Addr)(ns:List Str)(f:Str->Str):Prop:=∃kvs,H d=some (.dK kvs)/\∀n∈ns,Y1 kvs (.inr n)=some (.str (f n))
theorem Given.same{H H':Hp}{d:Addr}{ns:List Str}{f:Str->Str}(h:Given H d ns f)(s:Same H H'):Given H' d ns f:=let⟨k,e,q⟩:=h;⟨k,s _ _ e,q⟩
theorem Given.get{H:Hp}{d:Addr}{ns:List Str}{f:Str->Str}{n:Str}(h:Given H d ns f)(hn:n∈ns):DGet H d (.str n) (some (.str (f n))):=let⟨k,e,q⟩:=h;.inl ⟨k,.inr n,.inl e,rfl,(q n hn).symm⟩
noncomputable def ag1(qs:List PA2)(f:Str->Str)(n:Str):Bool:=decide (f n = "in") ==(B4 qs n).all fun m=>decide (f m = "out")
noncomputable def ag2(qs:List PA2)(f:Str->Str)(n:Str):Bool:=decide (f n = "out") == decide (("in":Str)∈(B4 qs n).map f)
noncomputable def agr(qs:List PA2)(f:Str->Str)(n:Str):Bool:=ag1 qs f n&&ag2 qs f n
theorem Gw(qs:List PA2)(n:Str):(B4 qs n).length<=qs.length:=by
 unfold B4
 rw[List.length_map]
 exact List.length_filter_le _ _
theorem Up{qs:List PA2}{n y:Str}{ns:List Str}(h:∀q∈qs,q.2.1∈ns/\q.2.2∈ns)(hy:y∈B4 qs n):y∈ns:=by
 obtain⟨q,hq,rfl⟩:=List.mem_map.mp hy
 exact(h q (List.mem_filter.mp hq).1).1
noncomputable def Wv(f:Str->Str):V->V
 | .str z=>.str (f z)
 | v=>v
theorem Qt(f:Str->Str)(l:List Str):(l.map V.str).map (Wv f) =(l.map f).map V.str:=by
 rw[List.map_map,List.map_map];rfl
theorem Sr(l:List Str):(l.map V.str).map (fun v=>V.bl (decide (v = .str "out"))) =(l.map fun z=>decide (z =("out":Str))).map V.bl:=by
 rw[List.map_map,List.map_map]
 refine List.map_congr_left fun z _=>?_
 simp
theorem Fq(a b:Bool):decide (V.bl a=V.bl b) =(a == b):=by cases a<;>cases b<;>simp
theorem Z7(a b:Str):decide (V.str a=V.str b)=decide (a=b):=by simp
section
variable{P:Program}{w:World}{K:PySem.W.Frag}{mg:Str->Option Value}{base:Heap}
theorem Fa:FnScope ["web", "given", "name", "against", "all_out", "one_in"] ["web", "given", "name"] (B7 s_agrees):=⟨rfl,rfl,rfl,by decide +kernel,rfl,by decide +kernel,by decide +kernel⟩
noncomputable def Ds(C:Addr):Sp:=fun vs H Q _=>∃(x d:Addr) (n:Str) (ns:List Str) (qs:List PA2) (f:Str->Str),vs = [.ref x,.ref d,.str n]/\WebAt C H x ns qs/\n∈ns/\Given H d ns f/\∀H',Same H H'->Q (.bl (agr qs f n)) H'
theorem Nd(T:Tx K mg):FnOk P w K mg base CX0 3 T.agrees.f T.agrees.fd ["web", "given", "name"] (Ds T.CWeb):=by
 have G_Web_strikers:FnOk P w K mg base CX0 2 T.mWeb_strikers.f T.mWeb_strikers.fd ["self", "name"] (P3 T.CWeb):=M8 T
 have sc:=Fa
 refine T.agrees.F.ok Fa (fun vs H Q E h=>?_) (fun cdv A outer s H vs Q E hr h=>?_)
 ·obtain⟨x,d,n,ns,qs,f,rfl,_⟩:=h
  rfl
 ·obtain⟨x,d,n,ns,qs,f,rfl,hW,hn,hG,q⟩:=h
  have hu:=Ew hr
  obtain⟨okw,dx,a,b,c,e,kc,kd,ex,_⟩:=id hW
  refine⟨_,(B2 (o9 (i:=3) (N':=["striker", "given"]) (cap:=[none,some 1]) (cl:=[("given",_)]) sc.nd rfl (by first | exact Or.inl rfl | exact Or.inr rfl) (K2 ⟨⟨rfl,rfl,rfl,rfl⟩,trivial⟩ ⟨rfl,trivial⟩) rfl (piL K (c9 (pv 0) T.clWeb T.mWeb_strikers.m G_Web_strikers (hr.mono (by decide)) T.mWeb_strikers.b .nil Y7 (A8 (pv 2) B0))) (fun _ _ _ _=>by exact⟨(pgC 0),E9,(V1 hu (pv 1) (pv 0) (fun _ _=>rfl))⟩))
   (B2 (C6 (i:=4) sc.nd rfl (by first | exact Or.inl rfl | exact Or.inr rfl) (D6 (T0 K) T.b_all T6 (A8 (Q9 (N':=["word"]) (cap:=[none]) (cl:=[]) (K2 trivial trivial) rfl (piL K (pv 3)) (fun _ _ _ _=>by exact⟨(pgC 0),E9,(C9 Q3 (pv 0) O7 (E3 _))⟩)) B0)))
   (B2 (C6 (i:=5) sc.nd rfl (by first | exact Or.inl rfl | exact Or.inr rfl) (C9 (V3 K) O7 (pv 3) rfl))
   (B3 (C0 (K6 (C9 Q3 (C9 Q3 (V1 hu (pv 1) (pv 2) (fun _ _=>rfl)) O7 (E3 _)) (pv 4) (E3 _)) (K1 (C9 Q3 (C9 Q3 (V1 hu (pv 1) (pv 2) (fun _ _=>rfl)) O7 (E3 _)) (pv 5) (E3 _))))))))),?_⟩
  have ls:=Gw qs n
  have lq:=okw.lenq
  have lm:((B4 qs n).map V.str).length<=1000:=by rw[List.length_map];omega
  refine C2 fun N1 hN1=>?_
  refine ex1 rfl ⟨x,dx,_,rfl,ex,rfl,ex1 rfl ⟨x,n,ns,qs,rfl,hW,hn,fun l hl=>⟨l,rfl,⟨_,SqL.of A9⟩,fun D hD=>?_⟩⟩⟩
  have u1:=Same.new (o:=.lst ((B4 qs n).map V.str)) hl
  have f1:(upd H l (.lst ((B4 qs n).map V.str))) l=some (.lst ((B4 qs n).map V.str)):=A9
  generalize upd H l (.lst ((B4 qs n).map V.str))=H1 at u1 f1 hD⊢
  refine Oq (asL (K:=K) (SqL.of f1)) (Wv f) lm hD (fun σ=>∃v0,σ = [v0,some (.ref d)]) ⟨_,rfl⟩ ?_ ?_
  ·rintro i σ G y M hy ⟨v0,rfl⟩ sG hM
   rw[List.getElem?_map]at hy
   obtain⟨z,hz,rfl⟩:=Option.map_eq_some_iff.mp hy
   exact ex1 rfl (ex1 rfl ⟨d,_,rfl,((hG.same u1).same sG).get (Up okw.mem (List.mem_of_getElem? hz)),hM _ G ⟨_,rfl⟩ (Same.refl _)⟩)
  ·intro σ H2 s2 e2
   rw[Qt]at e2
   have lm2:(((B4 qs n).map f).map V.str).length<=1000:=by rw[List.length_map,List.length_map];omega
   refine hN1 _ _ (C2 fun N2 hN2=>?_)
   refine ex1 rfl ⟨D,rfl,⟨_,SqL.of e2⟩,fun D2 hD2=>?_⟩
   refine Oq (asL (K:=K) (SqL.of e2)) (fun v=>.bl (decide (v = .str "out"))) lm2 hD2 (fun σ=>∃v0,σ = [v0]) ⟨_,rfl⟩ ?_ ?_
   ·rintro i σ G y M hy ⟨v0,rfl⟩ sG hM
    rw[List.getElem?_map]at hy
    obtain⟨z,hz,rfl⟩:=Option.map_eq_some_iff.mp hy
    exact ex1 rfl ⟨rfl,hM _ G ⟨_,rfl⟩ (Same.refl _)⟩
   ·intro σ H3 s3 e3
    rw[Sr]at e3
    refine⟨D2,_,rfl,SqL.of e3,?_⟩
    refine hN2 _ _ (C2 fun N3 hN3=>?_)
    refine ex1 rfl (I0 (.inl (SqL.of (s3 _ _ e2))) ?_)
    have G3:=((hG.same u1).same s2).same s3
    have sH:=(u1.trans s2).trans s3
    refine hN3 _ _ ?_
    refine ex1 rfl (ex1 rfl ⟨d,_,rfl,G3.get hn,⟨rfl,ex1 rfl ⟨rfl,?_⟩⟩⟩)
    have q:=q H3 sH
    unfold agr at q
    rw[Fq,Z7]
    rw[List.all_map,List.all_map]
    refine⟨_,rfl,R1 (fun h1=>?_) (fun h1=>?_)⟩
    ·refine ex1 rfl (ex1 rfl ⟨d,_,rfl,G3.get hn,⟨rfl,ex1 rfl ⟨rfl,?_⟩⟩⟩)
     rw[Fq,Z7]
     rw[show ag1 qs f n=true from h1,Bool.true_and]at q
     exact q
    ·rw[show ag1 qs f n=false from Bool.eq_false_iff.mpr h1,Bool.false_and]at q
     exact q
end
structure WS(H:Hp)(d:Addr)(ps:List PA2):Prop where
 at_:H d=some (.lst (E8 ps))\/H d=some (.tup (E8 ps))
 pin:∀q∈ps,D0 H q
 ok:∀q∈ps,PySem.PyData.strOk q.2.1=true/\PySem.PyData.strOk q.2.2=true
 len:ps.length<=200
theorem WS.same{H H':Hp}{d:Addr}{ps:List PA2}(h:WS H d ps)(s:Same H H'):WS H' d ps:=⟨h.at_.imp (s _ _) (s _ _),E6 s h.pin,h.ok,h.len⟩
theorem WS.sq{K:PySem.W.Frag}{H:Hp}{d:Addr}{ps:List PA2}(h:WS H d ps):Sqs K H d (E8 ps):=h.at_.imp SqL.of SqT.of
noncomputable abbrev W3:List Str:=["in", "out", "open"]
theorem Ud:∀y∈W3,PySem.PyData.strOk y=true:=by decide +kernel
noncomputable def Oz(ns:List Str)(ks:List (Str×Str)):List Bool:=(ns.zip ks).map fun p=>decide (p.2∈W3.map fun y=>(p.1,y))
noncomputable def Ad(ns:List Str)(ks:List (Str×Str)):Bool:=decide (ks.length=ns.length) &&(Oz ns ks).all id
section
variable{P:Program}{w:World}{K:PySem.W.Frag}{mg:Str->Option Value}{base:Heap}
theorem Ul{K:PySem.W.Frag}{H:Hp}{t l:Addr}{k:Str×Str}{ps:List PA2}{Q:VK}(ht:H t=some (.tup [.str k.1,.str k.2]))(hl:H l=some (.lst (E8 ps)))(hp:∀q∈ps,D0 H q)
  (hk:PySem.PyData.strOk k.1=true/\PySem.PyData.strOk k.2=true) (hs:∀q∈ps,PySem.PyData.strOk q.2.1=true/\PySem.PyData.strOk q.2.2=true) (q:Q (.bl (decide (k∈ps.map fun q=>q.2))) H):Uh K false (.ref t) (.ref l) H Q :=
 ⟨pd k,_,Gq ht,.inl (Cf hl hp),⟨Ol hk.1 hk.2,by simp[pd,PyData.depth,PyData.depthAll]⟩,Cg hs,by rw[if_neg (by decide),t8];exact q⟩
theorem Ej{l d D:Addr}{ns:List Str}{ps:List PA2}{H:Hp}{sr:Hp->Addr->List V->Prop}{te:TE}{Q:St->Hp->Prop}(f1:H l=some (.lst (ns.map V.str)))(hk:∀G,Same H G->sr G d (E8 ps))(n:ps.length=ns.length)(ln:ns.length<=100)(hD:H D=none)
  (step:∀(i:Nat) (n:Str) (q:PA2) (G:Hp) (M:VK),ns[i]?=some n->ps[i]?=some q->Same H G->(∀G',Same G G'->M (.bl (decide (q.2∈W3.map fun y=>(n,y)))) G')->te [some (.str n),some (.ref q.1)] G M)
  (q:∀σ G,Same H G->G D=some (.lst ((Oz ns (ps.map fun q=>q.2)).map V.bl))->Q σ G):Aq (Vr K 2 (Gp (K7 0) (Gp (K7 1) Yo))) De (Df D te) (Uf (SqL K) sr l d) [none,none] (upd H D (.lst [])) Q:=by
 refine Nj (xs:=ns.map V.str) (ys:=E8 ps) (by unfold E8;rw[List.length_map,List.length_map,n]) (fun i σ G=>(∃v0 v1,σ = [v0,v1])/\Same H G/\G D=some (.lst (((Oz ns (ps.map fun q=>q.2)).take i).map V.bl))) ⟨⟨_,_,rfl⟩,Same.new hD,A9⟩ (fun i σ G h=>⟨SqL.of (h.2.1 _ _ f1),hk G h.2.1⟩) ?_ ?_
 ·rintro i σ G T x y N hx hy ⟨⟨v0,v1,rfl⟩,sG,eG⟩ hT hN
  rw[List.getElem?_map]at hx
  obtain⟨z,hz,rfl⟩:=Option.map_eq_some_iff.mp hx
  unfold E8 at hy
  rw[List.getElem?_map]at hy
  obtain⟨r,hr,rfl⟩:=Option.map_eq_some_iff.mp hy
  refine⟨T,_,rfl,SqT.of A9,rfl,⟨_,_,rfl,⟨_,_,rfl,⟨rfl,Mx ?_⟩⟩⟩⟩
  have uT:=Same.new (o:=.tup [.str z,.ref r.1]) hT
  have sT:=sG.trans uT
  refine step i z r _ _ hz hr sT fun G' s'=>?_
  have hB:(Oz ns (ps.map fun q=>q.2))[i]?=some (decide (r.2∈W3.map fun y=>(z,y))):=by
   unfold Oz
   rw[List.getElem?_map,(List.getElem?_zip_eq_some (z:=(z,r.2))).mpr ⟨hz,by rw[List.getElem?_map,hr];rfl⟩]
   rfl
  refine⟨_,s' _ _ (uT _ _ eG),by rw[List.length_map,List.length_take,sizeLine_eq];have:=(List.getElem?_eq_some_iff.mp hz).1;omega,hN _ _ ⟨⟨_,_,rfl⟩,(sT.trans s').upd hD,?_⟩⟩
  rw[A9,C1 hB,List.map_append]
  rfl
 ·rintro σ G ⟨_,sG,eG⟩
  have:(ns.map V.str).length =(Oz ns (ps.map fun q=>q.2)).length:=by unfold Oz;rw[List.length_map,List.length_map,List.length_zip,List.length_map,n,Nat.min_self]
  rw[this,List.take_length]at eG
  exact q σ G sG eG
theorem Kb{a:Addr}{n:Str}{r:PA2}{G:Hp}{M:VK}(ka:GTup K a W3)(pr:D0 G r)(okr:PySem.PyData.strOk r.2.1=true/\PySem.PyData.strOk r.2.2=true)(okn:PySem.PyData.strOk n=true)(hM:∀G',Same G G'->M (.bl (decide (r.2∈W3.map fun y=>(n,y)))) G') :
  tOp (Uh K false) (Hc 1) (t9 (Yv K (tC (.ref a))) (fun _=>.lst []) [none,some 0] fun D J σ H Q=>Aq (K7 0) De (Df D (Zb (X7 (Hc 1) (X7 (Hc 0) Hk)))) J σ H Q) [some (.str n),some (.ref r.1)] G M:=by
 refine ex1 rfl ⟨a,rfl,⟨_,ka.sq⟩,fun D hD=>?_⟩
 refine J4 (asT (K:=K) (ka.sq (H:=G))) (fun i σ G'=>(∃v0,σ = [v0,some (.str n)])/\Same G G'/\∃ps:List PA2,G' D=some (.lst (E8 ps))/\(∀q∈ps,D0 G' q)/\(ps.map fun q=>q.2) =(W3.take i).map fun y=>(n,y)) ⟨⟨_,rfl⟩,Same.new hD,[],A9,fun q h=>absurd h List.not_mem_nil,rfl⟩ (fun i σ G' _ h=>h.2.1.at a) ?_ ?_
 ·rintro i σ G1 v N hv ⟨⟨v0,rfl⟩,s1,ps,e1,p1,k1⟩ hN
  rw[List.getElem?_map]at hv
  obtain⟨y,hy,rfl⟩:=Option.map_eq_some_iff.mp hv
  refine R0 (ex1 rfl (ex1 rfl ⟨by show 2<=sizeLine;decide,fun t ht=>?_⟩))
  have ut:=Same.new (o:=.tup [.str n,.str y]) ht
  have li:i<3:=(List.getElem?_eq_some_iff.mp hy).1
  have lp:ps.length=i:=by
   have:=congrArg List.length k1
   rw[List.length_map,List.length_map,List.length_take]at this
   rw[this]
   exact Nat.min_eq_left (Nat.le_of_lt li)
  refine⟨_,ut _ _ e1,by unfold E8;rw[List.length_map,sizeLine_eq];omega,hN _ _ ⟨⟨_,rfl⟩,(s1.trans ut).upd hD,ps ++ [(t,(n,y))],?_,fun q hq=>?_,?_⟩⟩
  ·rw[A9]
   unfold E8
   rw[List.map_append]
   rfl
  ·have nt:∀{b o},(upd G1 t (.tup [.str n,.str y])) b=some (.tup o)->b≠D:=fun e=>T9 e (ut _ _ e1) (by intro z;cases z)
   rcases List.mem_append.mp hq with hq | hq
   ·exact(B6 (nt (ut _ _ (p1 q hq)))).trans (ut _ _ (p1 q hq))
   ·rw[List.mem_singleton.mp hq]
    exact(B6 (nt A9)).trans A9
  ·rw[List.map_append,k1,C1 hy,List.map_append]
   rfl
 ·rintro σ G1 ⟨_,s1,ps,e1,p1,k1⟩
  have k1:(ps.map fun q=>q.2)=W3.map fun y=>(n,y):=k1
  refine Ul (k:=r.2) (s1 _ _ pr) e1 p1 okr (fun q hq=>?_) ?_
  ·have:q.2∈W3.map fun y=>(n,y):=by rw[<-k1];exact List.mem_map.mpr ⟨q,hq,rfl⟩
   obtain⟨y,hy,e⟩:=List.mem_map.mp this
   rw[<-e]
   exact⟨okn,Ud y hy⟩
  ·rw[k1]
   exact hM G1 s1
theorem g7:FnScope ["web", "words", "names"] ["web", "words"] (B7 s_are_words):=⟨rfl,rfl,rfl,by decide +kernel,rfl,by decide +kernel,by decide +kernel⟩
noncomputable def i9(C:Addr):Sp:=fun vs H Q _=>∃(x d:Addr) (ns:List Str) (qs ps:List PA2),vs = [.ref x,.ref d]/\WebAt C H x ns qs/\(∀y∈ns,I9 y=true)/\WS H d ps/\∀H',Same H H'->Q (.bl (Ad ns (ps.map fun q=>q.2))) H'
set_option maxHeartbeats 1000000 in
theorem Es(T:Tx K mg):FnOk P w K mg base CX0 2 T.are_words.f T.are_words.fd ["web", "words"] (i9 T.CWeb):=by
 have G_Web_all_names:FnOk P w K mg base CX0 1 T.mWeb_all_names.f T.mWeb_all_names.fd ["self"] (J0 T.CWeb):=F0 T
 have sc:=g7
 refine T.are_words.F.ok g7 (fun vs H Q E h=>?_) (fun cdv A outer s H vs Q E hr h=>?_)
 ·obtain⟨x,d,ns,qs,ps,rfl,_⟩:=h
  rfl
 ·obtain⟨x,d,ns,qs,ps,rfl,hW,hN,hS,q⟩:=h
  obtain⟨okw,dx,a,b,c,e,kc,kd,ex,_⟩:=id hW
  refine⟨_,(B2 (C6 (i:=2) sc.nd rfl (by first | exact Or.inl rfl | exact Or.inr rfl) (W6 (pv 0) T.clWeb T.mWeb_all_names.m G_Web_all_names (hr.mono (by decide)) T.mWeb_all_names.b .nil Y7))
   (B2 (J8 (C4 Ma (D6 (J9 K) T.b_len J3 (A8 (pv 1) B0)) (D6 (J9 K) T.b_len J3 (A8 (pv 2) B0)) (E3 _)) (B3 (C0 m9)) D9)
   (B3 (C0 (D6 (T0 K) T.b_all T6 (A8 (Xv (N':=["name", "pair"]) (cap:=[none,none]) (cl:=[]) (Zo (fun _=>trivial) trivial) rfl (zBu K T.b_zip (A8 (pv 2) (A8 (pv 1) B0))) (fun _ _ _ _=>by exact⟨(pgT K (n:=2) (C7 (pgD 0) (C7 (pgD 1) M6))),E9,(C9 (Yx K hr.units) (pv 1) (Q9 (N':=["word", "name"]) (cap:=[none,some 0]) (cl:=[("name",_)]) (K2 ⟨⟨rfl,rfl,rfl,rfl⟩,trivial⟩ ⟨rfl,trivial⟩) rfl (piT K (Zd T.gWORDS)) (fun _ _ _ _=>by exact⟨(pgC 0),E9,(O2 (A8 (pv 1) (A8 (pv 0) B0)))⟩)) rfl)⟩)) B0)))))),?_⟩
  have lr:(E8 ps).length=ps.length:=List.length_map ..
  have ln:(ns.map V.str).length=ns.length:=List.length_map ..
  refine C2 fun N1 hN1=>?_
  refine ex1 rfl ⟨x,dx,_,rfl,ex,rfl,x,ns,qs,rfl,hW,fun l hl=>?_⟩
  have u1:=Same.new (o:=.lst (ns.map V.str)) hl
  have f1:(upd H l (.lst (ns.map V.str))) l=some (.lst (ns.map V.str)):=A9
  generalize upd H l (.lst (ns.map V.str))=H1 at u1 f1⊢
  have S1:=hS.same u1
  refine hN1 _ _ (C2 fun N2 hN2=>?_)
  refine ex1 rfl ⟨d,_,rfl,S1.sq,ex1 rfl ⟨l,_,rfl,.inl (SqL.of f1),⟨rfl,ex1 rfl ?_⟩⟩⟩
  rw[lr,ln]
  by_cases c0:ps.length=ns.length
  ·rw[show(!decide (V.int (ps.length:Int)=V.int (ns.length:Int)))=false by simp[c0]]
   refine S6 (hN2 _ _ ?_)
   have key:∀G,Same H1 G->∀D,G D=some (.lst ((Oz ns (ps.map fun q=>q.2)).map V.bl))->Q (.bl ((Oz ns (ps.map fun q=>q.2)).all id)) G:=fun G sG D _=>by
    have:=q G (u1.trans sG)
    unfold Ad at this
    rw[List.length_map,decide_eq_true c0,Bool.true_and]at this
    exact this
   have stp:=fun(i:Nat) (n:Str) (r:PA2) (G:Hp) (M:VK) (hn:ns[i]?=some n) (hr:ps[i]?=some r) (sG:Same H1 G) (hM:∀G',Same G G'->M (.bl (decide (r.2∈W3.map fun y=>(n,y)))) G') =>
    Kb (K:=K) (T.kWORDS) (E6 sG S1.pin r (List.mem_of_getElem? hr)) (S1.ok r (List.mem_of_getElem? hr)) (O1 (hN n (List.mem_of_getElem? hn))) hM
   refine ex1 rfl (ex1 rfl ⟨l,d,ns.map V.str,E8 ps,rfl,?_⟩)
   rcases S1.at_ with h | h
   ·refine .inl ⟨SqL.of f1,SqL.of h,fun D hD=>Ej f1 (fun G sG=>SqL.of (sG _ _ h)) c0 okw.len hD stp fun σ G sG eG=>⟨D,_,rfl,SqL.of eG,key G sG D eG⟩⟩
   ·refine .inr ⟨SqL.of f1,SqT.of h,fun D hD=>Ej f1 (fun G sG=>SqT.of (sG _ _ h)) c0 okw.len hD stp fun σ G sG eG=>⟨D,_,rfl,SqL.of eG,key G sG D eG⟩⟩
  ·rw[show(!decide (V.int (ps.length:Int)=V.int (ns.length:Int)))=true by simp;omega]
   have:=q H1 u1
   unfold Ad at this
   rw[List.length_map,decide_eq_false c0,Bool.false_and]at this
   exact Pw this
end
noncomputable def fOf(ks:List (Str×Str))(n:Str):Str:=((ks.find? fun k=>decide (k.1=n)).map fun k=>k.2).getD ""
theorem Iz:∀{ks:List (Str×Str)} {k:Str×Str},(ks.map fun k=>k.1).Nodup->k∈ks->fOf ks k.1=k.2
 | [],_,_,h=>absurd h List.not_mem_nil
 | a::r,k,nd,h=>by
  rw[List.map_cons]at nd
  obtain⟨n1,n2⟩:=List.nodup_cons.mp nd
  unfold fOf
  rw[List.find?_cons]
  rcases List.mem_cons.mp h with rfl | h
  ·rw[decide_eq_true rfl];rfl
  ·have ne:a.1≠k.1:=fun z=>n1 (by rw[z];exact List.mem_map.mpr ⟨k,h,rfl⟩)
   rw[decide_eq_false ne]
   exact Iz n2 h
theorem words_iff{ns:List Str}{ks:List (Str×Str)}:Ad ns ks=true↔(ks.map fun k=>k.1)=ns/\∀k∈ks,k.2∈W3:=by
 unfold Ad Oz
 rw[Bool.and_eq_true,decide_eq_true_iff]
 constructor
 ·rintro⟨hl,ha⟩
  have ha:=List.all_eq_true.mp ha
  have key:∀(i:Nat) (n:Str) (k:Str×Str),ns[i]?=some n->ks[i]?=some k->k.1=n/\k.2∈W3:=fun i n k hn hk=>by
   have:=ha _ (List.mem_map.mpr ⟨(n,k),List.mem_of_getElem? ((List.getElem?_zip_eq_some (z:=(n,k))).mpr ⟨hn,hk⟩),rfl⟩)
   obtain⟨y,hy,e⟩:=List.mem_map.mp (of_decide_eq_true this)
   have e:(n,y)=k:=e
   rw[<-e]
   exact⟨rfl,hy⟩
  refine⟨List.ext_getElem? fun i=>?_,fun k hk=>?_⟩
  ·rw[List.getElem?_map]
   by_cases c:i<ks.length
   ·rw[List.getElem?_eq_getElem c,List.getElem?_eq_getElem (by omega:i<ns.length)]
    exact congrArg some (key i _ _ (List.getElem?_eq_getElem (by omega)) (List.getElem?_eq_getElem c)).1
   ·rw[List.getElem?_eq_none (by omega),List.getElem?_eq_none (by omega)]
    rfl
  ·obtain⟨i,hi⟩:=List.getElem?_of_mem hk
   have c:=(List.getElem?_eq_some_iff.mp hi).1
   exact(key i _ k (List.getElem?_eq_getElem (by omega)) hi).2
 ·rintro⟨rfl,h⟩
  refine⟨(List.length_map ..).symm,List.all_eq_true.mpr fun b hb=>?_⟩
  obtain⟨⟨n,k⟩,hp,rfl⟩:=List.mem_map.mp hb
  obtain⟨i,hi⟩:=List.getElem?_of_mem hp
  obtain⟨h1,h2⟩:=List.getElem?_zip_eq_some.mp hi
  rw[List.getElem?_map,h2]at h1
  have h1:k.1=n:=Option.some.inj h1
  subst h1
  exact decide_eq_true (List.mem_map.mpr ⟨k.2,h k (List.mem_of_getElem? h2),rfl⟩)
noncomputable def Gh(ns:List Str)(qs:List PA2)(ks:List (Str×Str)):Bool:=Ad ns ks&&ns.all (agr qs (fOf ks))
noncomputable def zAt(qs:List PA2)(f:Str->Str):V->V
 | .str z=>.bl (agr qs f z)
 | v=>v
theorem Ub(qs:List PA2)(f:Str->Str)(l:List Str):(l.map V.str).map (zAt qs f) =(l.map (agr qs f)).map V.bl:=by
 rw[List.map_map,List.map_map];rfl
section
variable{P:Program}{w:World}{K:PySem.W.Frag}{mg:Str->Option Value}{base:Heap}
theorem Ql{J:It}{a D:Addr}{ns:List Str}{ps:List PA2}{H:Hp}{Q:St->Hp->Prop}(as:AsSeq J (E8 ps) a H)(hp:∀q∈ps,D0 H q)(len:ps.length<=200)(hD:H D=none)(e:(ps.map fun q=>q.2.1)=ns)(nd:ns.Nodup)
  (q:∀σ G,Same H G->Given G D ns (fOf (ps.map fun q=>q.2))->Q σ G):Aq (Vr K 2 (Gp (K7 0) (Gp (K7 1) Yo))) De (Re D (Hc 0) (Hc 1)) J [none,none] (upd H D (.dK [])) Q:=by
 refine J4 as (fun i σ G=>(∃v0 v1,σ = [v0,v1])/\Same H G/\∃kvs,G D=some (.dK kvs)/\kvs.length<=i/\∀q∈ps.take i,Y1 kvs (.inr q.2.1)=some (.str (fOf (ps.map fun q=>q.2) q.2.1))) ⟨⟨_,_,rfl⟩,Same.new hD,[],A9,Nat.zero_le _,fun q h=>absurd h (by simp)⟩ (fun i σ G _ h=>h.2.1.at a) ?_ ?_
 ·rintro i σ G v N hv ⟨⟨v0,v1,rfl⟩,sG,kvs,eG,lG,vG⟩ hN
  unfold E8 at hv
  rw[List.getElem?_map]at hv
  obtain⟨r,hr,rfl⟩:=Option.map_eq_some_iff.mp hv
  have mr:=List.mem_of_getElem? hr
  have li:=(List.getElem?_eq_some_iff.mp hr).1
  refine⟨r.1,_,rfl,SqT.of (sG _ _ (hp r mr)),rfl,⟨_,_,rfl,⟨_,_,rfl,⟨rfl,Mx ?_⟩⟩⟩⟩
  refine ex1 rfl (ex1 rfl ⟨kvs,.inr r.2.1,eG,rfl,by rw[sizeLine_eq];omega,hN _ _ ⟨⟨_,_,rfl⟩,sG.upd hD,_,A9,?_,fun z hz=>?_⟩⟩)
  ·have:=U7 kvs (.inr r.2.1:Key) (.str r.2.2)
   omega
  ·rw[Gk]
   by_cases c:z.2.1=r.2.1
   ·rw[if_pos c,c,Iz (k:=r.2) (by rw[List.map_map];exact e▸nd) (List.mem_map.mpr ⟨r,mr,rfl⟩)]
   ·rw[if_neg c]
    rw[C1 hr]at hz
    rcases List.mem_append.mp hz with hz | hz
    ·exact vG z hz
    ·rw[List.mem_singleton.mp hz]at c;exact absurd rfl c
 ·rintro σ G ⟨_,sG,kvs,eG,lG,vG⟩
  refine q σ G sG ⟨kvs,eG,fun n hn=>?_⟩
  rw[<-e]at hn
  obtain⟨r,hr,rfl⟩:=List.mem_map.mp hn
  refine vG r ?_
  unfold E8
  rw[List.length_map,List.take_length]
  exact hr
theorem X8:FnScope ["web", "words", "given"] ["web", "words"] (B7 s_is_telling):=⟨rfl,rfl,rfl,by decide +kernel,rfl,by decide +kernel,by decide +kernel⟩
noncomputable def P1(C:Addr):Sp:=fun vs H Q _=>∃(x d:Addr) (ns:List Str) (qs ps:List PA2),vs = [.ref x,.ref d]/\WebAt C H x ns qs/\(∀y∈ns,I9 y=true)/\WS H d ps/\∀H',Same H H'->Q (.bl (Gh ns qs (ps.map fun q=>q.2))) H'
set_option maxHeartbeats 1000000 in
theorem X6(T:Tx K mg):FnOk P w K mg base CX0 4 T.is_telling.f T.is_telling.fd ["web", "words"] (P1 T.CWeb):=by
 have G_Web_all_names:FnOk P w K mg base CX0 1 T.mWeb_all_names.f T.mWeb_all_names.fd ["self"] (J0 T.CWeb):=F0 T
 have G_agrees:FnOk P w K mg base CX0 3 T.agrees.f T.agrees.fd ["web", "given", "name"] (Ds T.CWeb):=Nd T
 have G_are_words:FnOk P w K mg base CX0 2 T.are_words.f T.are_words.fd ["web", "words"] (i9 T.CWeb):=Es T
 have sc:=X8
 refine T.is_telling.F.ok X8 (fun vs H Q E h=>?_) (fun cdv A outer s H vs Q E hr h=>?_)
 ·obtain⟨x,d,ns,qs,ps,rfl,_⟩:=h
  rfl
 ·obtain⟨x,d,ns,qs,ps,rfl,hW,hN,hS,q⟩:=h
  obtain⟨okw,dx,a,b,c,e,kc,kd,ex,_⟩:=id hW
  refine⟨_,(B2 (J8 (M2 (G7 (C5 T.are_words G_are_words (hr.mono (by decide)) (A8 (pv 0) (A8 (pv 1) B0))))) (B3 (C0 m9)) D9)
   (B2 (C6 (i:=2) sc.nd rfl (by first | exact Or.inl rfl | exact Or.inr rfl) (Tu (N':=["name", "word"]) (cap:=[none,none]) (cl:=[]) (K2 trivial trivial) rfl (piS K (pv 1)) (fun _ _ _ _=>by exact⟨(pgT K (n:=2) (C7 (pgC 0) (C7 (pgC 1) M6))),E9,(pv 0),(pv 1)⟩)))
   (B3 (C0 (D6 (T0 K) T.b_all T6 (A8 (Q9 (N':=["name", "web", "given"]) (cap:=[none,some 0,some 2]) (cl:=[("web",_),("given",_)]) (K2 ⟨⟨rfl,rfl,rfl,rfl⟩,⟨⟨rfl,rfl,rfl,rfl⟩,trivial⟩⟩ ⟨rfl,⟨rfl,trivial⟩⟩) rfl (piL K (W6 (pv 0) T.clWeb T.mWeb_all_names.m G_Web_all_names (hr.mono (by decide)) T.mWeb_all_names.b .nil Y7)) (fun _ _ _ _=>by exact⟨(pgC 0),E9,(C5 T.agrees G_agrees (hr.mono (by decide)) (A8 (pv 1) (A8 (pv 2) (A8 (pv 0) B0))))⟩)) B0)))))),?_⟩
  refine C2 fun N1 hN1=>?_
  refine ex1 rfl (ex1 rfl ⟨x,d,ns,qs,ps,rfl,hW,hN,hS,fun H1 s1=>⟨_,rfl,?_⟩⟩)
  unfold Gh at q
  cases hw:Ad ns (ps.map fun q=>q.2)with
  | false =>
   have:=q H1 s1
   rw[hw,Bool.false_and]at this
   exact Pw this
  | true =>
   have q:∀H',Same H H'->Q (.bl (ns.all (agr qs (fOf (ps.map fun q=>q.2))))) H':=fun H' s'=>by
    have:=q H' s'
    rw[hw,Bool.true_and]at this
    exact this
   obtain⟨w1,w2⟩:=words_iff.mp hw
   rw[List.map_map]at w1
   refine S6 (hN1 _ _ (C2 fun N2 hN2=>?_))
   have S1:=hS.same s1
   refine o8 (a:=d) rfl S1.sq fun J as D hD=>Ql as S1.pin S1.len hD w1 okw.nd fun σ H2 s2 hG=>?_
   refine hN2 _ _ ?_
   have s12:=s1.trans s2
   have hW2:=hW.same s12
   refine ex1 rfl ⟨x,dx,_,rfl,s12 _ _ ex,rfl,x,ns,qs,rfl,hW2,fun l hl=>⟨l,rfl,⟨_,SqL.of A9⟩,fun D2 hD2=>?_⟩⟩
   have u3:=Same.new (o:=.lst (ns.map V.str)) hl
   have f3:(upd H2 l (.lst (ns.map V.str))) l=some (.lst (ns.map V.str)):=A9
   generalize upd H2 l (.lst (ns.map V.str))=H3 at u3 f3 hD2⊢
   refine Oq (asL (K:=K) (SqL.of f3)) (zAt qs (fOf (ps.map fun q=>q.2))) (by rw[List.length_map];have:=okw.len;omega) hD2 (fun σ=>∃v0,σ = [v0,some (.ref x),some (.ref D)]) ⟨_,rfl⟩ ?_ ?_
   ·rintro i σ G y M hy ⟨v0,rfl⟩ sG hM
    rw[List.getElem?_map]at hy
    obtain⟨z,hz,rfl⟩:=Option.map_eq_some_iff.mp hy
    have s3:=u3.trans sG
    exact ex1 rfl (ex1 rfl (ex1 rfl ⟨x,D,z,ns,qs,_,rfl,hW2.same s3,List.mem_of_getElem? hz,hG.same s3,fun G' s'=>hM _ G' ⟨_,rfl⟩ s'⟩))
   ·intro σ H4 s4 e4
    rw[Ub]at e4
    refine⟨D2,_,rfl,SqL.of e4,?_⟩
    rw[List.all_map]
    exact q H4 ((s12.trans u3).trans s4)
end
theorem telling_iff{ns:List Str}{qs:List PA2}{ks:List (Str×Str)}:Gh ns qs ks=true↔((ks.map fun k=>k.1)=ns/\∀k∈ks,k.2∈W3)/\∀n∈ns,(fOf ks n = "in" ↔∀x,Y4 qs x n->fOf ks x = "out")/\(fOf ks n = "out" ↔∃x,Y4 qs x n/\fOf ks x = "in"):=by
 unfold Gh
 rw[Bool.and_eq_true,words_iff,List.all_eq_true]
 refine and_congr Iff.rfl (forall_congr' fun n=>forall_congr' fun _=>?_)
 unfold agr ag1 ag2
 rw[Bool.and_eq_true,beq_iff_eq,beq_iff_eq]
 refine and_congr ?_ ?_
 ·rw[Bool.eq_iff_iff,decide_eq_true_iff,List.all_eq_true]
  refine Iff.intro (fun h=>h.trans ?_) (fun h=>h.trans ?_)
  ·exact⟨fun h x hx=>of_decide_eq_true (h x (strk_strikers.mpr hx)),fun h x hx=>decide_eq_true (h x (strk_strikers.mp hx))⟩
  ·exact⟨fun h x hx=>decide_eq_true (h x (strk_strikers.mp hx)),fun h x hx=>of_decide_eq_true (h x (strk_strikers.mpr hx))⟩
 ·rw[Bool.eq_iff_iff,decide_eq_true_iff,decide_eq_true_iff,List.mem_map]
  have:(∃a,a∈B4 qs n/\fOf ks a = "in")↔∃x,Y4 qs x n/\fOf ks x = "in":=⟨fun⟨x,h,e⟩=>⟨x,strk_strikers.mp h,e⟩,fun⟨x,h,e⟩=>⟨x,strk_strikers.mpr h,e⟩⟩
  rw[this]
noncomputable abbrev wBy(ns ss hs:List Str):List (Str×Str):=ns.map fun n=>(n,K0 ss hs n)
theorem Iw(ns ss hs:List Str):((wBy ns ss hs).map fun k=>k.1)=ns:=by
 unfold wBy
 rw[List.map_map]
 exact List.map_id' ns
theorem U4{ns ss hs:List Str}(nd:ns.Nodup){n:Str}(hn:n∈ns):fOf (wBy ns ss hs) n=K0 ss hs n :=
 Iz (k:=(n,K0 ss hs n)) (by rw[Iw];exact nd) (List.mem_map.mpr ⟨n,hn,rfl⟩)
theorem wordBy_in{ss hs:List Str}{n:Str}:K0 ss hs n = "in" ↔n∈ss:=by
 unfold K0
 by_cases h:n∈ss
 ·rw[if_pos h];exact⟨fun _=>h,fun _=>rfl⟩
 ·rw[if_neg h]
  by_cases h':n∈hs
  ·rw[if_pos h'];exact⟨fun z=>absurd z (by decide),fun z=>absurd z h⟩
  ·rw[if_neg h'];exact⟨fun z=>absurd z (by decide),fun z=>absurd z h⟩
theorem a7{ss hs:List Str}{n:Str}(q:n∈ss->n∉hs):K0 ss hs n = "out" ↔n∈hs:=by
 unfold K0
 by_cases h:n∈ss
 ·rw[if_pos h];exact⟨fun z=>absurd z (by decide),fun z=>absurd z (q h)⟩
 ·rw[if_neg h]
  by_cases h':n∈hs
  ·rw[if_pos h'];exact⟨fun _=>h',fun _=>rfl⟩
  ·rw[if_neg h'];exact⟨fun z=>absurd z (by decide),fun z=>absurd z h'⟩
theorem Dx(ss hs:List Str)(n:Str):K0 ss hs n∈W3:=by
 unfold K0
 by_cases h:n∈ss
 ·rw[if_pos h];decide
 ·rw[if_neg h]
  by_cases h':n∈hs
  ·rw[if_pos h'];decide
  ·rw[if_neg h'];decide
theorem Y5{ns ss hs:List Str}{qs:List PA2}(nd:ns.Nodup)(mem:∀q∈qs,q.2.1∈ns/\q.2.2∈ns)(sub:∀n∈ss,n∈ns)(hh:∀y,y∈hs↔∃n∈ss,y∈C3 qs n)(qu:Q0 qs ss):Gh ns qs (wBy ns ss hs)=true↔Ao ns qs ss:=by
 have hh:∀y,y∈hs↔∃n∈ss,Y4 qs n y:=fun y=>(hh y).trans ⟨fun⟨n,h,e⟩=>⟨n,h,strk_struck.mp e⟩,fun⟨n,h,e⟩=>⟨n,h,strk_struck.mpr e⟩⟩
 have nq:∀y,y∈ss->y∉hs:=fun y h z=>by
  obtain⟨m,hm,e⟩:=(hh y).mp z
  exact qu m hm y h e
 have sin:∀{x y},Y4 qs x y->x∈ns:=fun⟨q,h,e,_⟩=>e▸(mem q h).1
 rw[telling_iff]
 constructor
 ·rintro⟨_,h⟩
  have key:∀n∈ns,n∈ss↔Du qs ss n:=fun n hn=>by
   have:=(h n hn).1
   rw[U4 nd hn,wordBy_in]at this
   rw[this]
   refine forall_congr' fun x=>forall_congr' fun hx=>?_
   rw[U4 nd (sin hx),a7 (nq x),hh]
  exact⟨⟨qu,fun x n hn hx=>(key n (sub n hn)).mp hn x hx⟩,key⟩
 ·rintro⟨_,key⟩
  refine⟨⟨Iw ..,fun k hk=>?_⟩,fun n hn=>⟨?_,?_⟩⟩
  ·obtain⟨n,_,rfl⟩:=List.mem_map.mp hk
   exact Dx ..
  ·rw[U4 nd hn,wordBy_in,key n hn]
   refine forall_congr' fun x=>forall_congr' fun hx=>?_
   rw[U4 nd (sin hx),a7 (nq x),hh]
  ·rw[U4 nd hn,a7 (nq n),hh]
   exact⟨fun⟨m,hm,e⟩=>⟨m,e,by rw[U4 nd (sin e)];exact wordBy_in.mpr hm⟩,fun⟨m,e,hm⟩=>⟨m,wordBy_in.mp (by rw[U4 nd (sin e)]at hm;exact hm),e⟩⟩
theorem Ld{ns ss hs:List Str}{qs:List PA2}{ks:List (Str×Str)}(nd:ns.Nodup)(mem:∀q∈qs,q.2.1∈ns/\q.2.2∈ns)(hk:(ks.map fun k=>k.1)=ns)(h3:∀k∈ks,k.2∈W3)(es:ss =(ks.filter fun k=>decide (k.2 =("in":Str))).map fun k=>k.1)(hh:∀y,y∈hs↔∃n∈ss,y∈C3 qs n) :
  Gh ns qs ks=true↔Ao ns qs ss/\wBy ns ss hs=ks:=by
 have ndk:(ks.map fun k=>k.1).Nodup:=hk▸nd
 have fk:∀k∈ks,fOf ks k.1=k.2:=fun k h=>Iz ndk h
 have mem_ss:∀n∈ns,n∈ss↔fOf ks n = "in":=fun n hn=>by
  rw[<-hk]at hn
  obtain⟨k,hk1,rfl⟩:=List.mem_map.mp hn
  rw[fk k hk1,es,List.mem_map]
  constructor
  ·rintro⟨k',h',e⟩
   obtain⟨h1,h2⟩:=List.mem_filter.mp h'
   have:=fk k' h1
   rw[e,fk k hk1]at this
   rw[this]
   exact of_decide_eq_true h2
  ·intro e
   exact⟨k,List.mem_filter.mpr ⟨hk1,decide_eq_true e⟩,rfl⟩
 have sub:∀n∈ss,n∈ns:=fun n h=>by
  rw[es]at h
  obtain⟨k,h',rfl⟩:=List.mem_map.mp h
  rw[<-hk]
  exact List.mem_map.mpr ⟨k,(List.mem_filter.mp h').1,rfl⟩
 have ends:∀{x y},Y4 qs x y->x∈ns/\y∈ns:=fun⟨q,h,e,e'⟩=>⟨e▸(mem q h).1,e'▸(mem q h).2⟩
 constructor
 ·intro t
  obtain⟨_,h⟩:=telling_iff.mp t
  have qu:Q0 qs ss:=fun m hm n hn e=>by
   have a:=(mem_ss n (sub n hn)).mp hn
   have b:=(h n (sub n hn)).2.mpr ⟨m,e,(mem_ss m (sub m hm)).mp hm⟩
   rw[a]at b
   exact absurd b (by decide)
  have e:wBy ns ss hs=ks:=by
   have e1:ks.map (fun k=>(k.1,K0 ss hs k.1))=ks.map id:=List.map_congr_left fun k hk1=>by
    refine Prod.ext rfl ?_
    have kn:k.1∈ns:=hk▸List.mem_map.mpr ⟨k,hk1,rfl⟩
    show K0 ss hs k.1=k.2
    have o:=(h k.1 kn).2
    rw[fk k hk1]at o
    have i:=mem_ss k.1 kn
    rw[fk k hk1]at i
    have hout:k.1∈hs↔k.2 = "out":=by
     rw[hh,o]
     exact⟨fun⟨n,hn,e⟩=>⟨n,strk_struck.mp e,(mem_ss n (sub n hn)).mp hn⟩,fun⟨x,e,hx⟩=>⟨x,(mem_ss x (ends e).1).mpr hx,strk_struck.mpr e⟩⟩
    unfold K0
    by_cases c:k.1∈ss
    ·rw[if_pos c,i.mp c]
    ·rw[if_neg c]
     by_cases c':k.1∈hs
     ·rw[if_pos c',hout.mp c']
     ·rw[if_neg c']
      rcases List.mem_cons.mp (h3 k hk1)with z | z
      ·exact absurd (i.mpr z) c
      ·rcases List.mem_cons.mp z with z | z
       ·exact absurd (hout.mpr z) c'
       ·exact(List.mem_singleton.mp z).symm
   rw[List.map_id]at e1
   unfold wBy
   rw[<-hk,List.map_map]
   exact e1
  exact⟨(Y5 nd mem sub hh qu).mp (by rw[e];exact t),e⟩
 ·rintro⟨wh,e⟩
  rw[<-e]
  exact(Y5 nd mem sub hh wh.1.1).mpr wh
theorem Ou{ns ss:List Str}{qs:List PA2}(mem:∀q∈qs,q.2.1∈ns/\q.2.2∈ns)(h:Q6 ns qs ss):Ao ns qs ss:=by
 obtain⟨qu,al⟩:=h
 have back:∀x n,n∈ss->Y4 qs x n->∃m∈ss,Y4 qs m x:=fun x n hn e=>by
  obtain⟨q,hq,e1,e2⟩:=e
  rcases al x (e1▸(mem q hq).1)with z | z
  ·exact absurd ⟨q,hq,e1,e2⟩ (qu x z n hn)
  ·exact z
 refine⟨⟨qu,fun x n hn e=>back x n hn e⟩,fun n hn=>⟨fun z x e=>back x n z e,fun k=>?_⟩⟩
 rcases al n hn with z | ⟨m,hm,e⟩
 ·exact z
 ·obtain⟨m',hm',e'⟩:=k m e
  exact absurd e' (qu m' hm' m hm)
noncomputable def Ke(ps:List PA2)(ss:List Str):List Str:=(ps.filter fun q=>decide (q.2.1∈ss)).map fun q=>q.2.2
noncomputable def At(ps:List PA2)(ss:List Str):List Str:=(ps.filter fun q=>!decide (q.2.1∈Ke ps ss)).map fun q=>q.2.2
noncomputable def Aj(ps:List PA2)(ss:List Str):List PA2:=ps.filter fun q=>decide (q.2.1∈ss)&&decide (q.2.2∈ss)
noncomputable def Y0(ns:List Str)(ps:List PA2)(ss:List Str):List Str:=ns.filter fun n=>!decide (n∈At ps ss)
theorem mem_hitL{ps:List PA2}{ss:List Str}{y:Str}:y∈Ke ps ss↔∃n∈ss,Y4 ps n y:=by
 unfold Ke
 rw[List.mem_map]
 constructor
 ·rintro⟨q,h,rfl⟩
  obtain⟨h1,h2⟩:=List.mem_filter.mp h
  exact⟨q.2.1,of_decide_eq_true h2,q,h1,rfl,rfl⟩
 ·rintro⟨n,hn,q,hq,e,rfl⟩
  exact⟨q,List.mem_filter.mpr ⟨hq,decide_eq_true (e▸hn)⟩,rfl⟩
theorem kept_open{ps:List PA2}{ss:List Str}{y:Str}:y∉At ps ss↔Du ps ss y:=by
 constructor
 ·intro h x ⟨q,hq,e1,e2⟩
  by_cases c:x∈Ke ps ss
  ·exact mem_hitL.mp c
  ·refine absurd (List.mem_map.mpr ⟨q,List.mem_filter.mpr ⟨hq,?_⟩,e2⟩) h
   rw[e1,decide_eq_false c];rfl
 ·intro h z
  obtain⟨q,hq,e⟩:=List.mem_map.mp z
  obtain⟨h1,h2⟩:=List.mem_filter.mp hq
  have c:=mem_hitL.mpr (h q.2.1 ⟨q,h1,rfl,e⟩)
  rw[decide_eq_true c]at h2
  cases h2
theorem Qa{ps:List PA2}{ss:List Str}:Aj ps ss = []↔Q0 ps ss:=by
 unfold Aj
 rw[List.filter_eq_nil_iff]
 constructor
 ·intro h m hm n hn ⟨q,hq,e1,e2⟩
  exact h q hq (by rw[Bool.and_eq_true];exact⟨decide_eq_true (e1▸hm),decide_eq_true (e2▸hn)⟩)
 ·intro h q hq c
  rw[Bool.and_eq_true]at c
  exact h q.2.1 (of_decide_eq_true c.1) q.2.2 (of_decide_eq_true c.2) ⟨q,hq,rfl,rfl⟩
theorem Us{ps:List PA2}{ss:List Str}:(ss.filter fun n=>decide (n∈At ps ss)) = []↔Bx ps ss:=by
 rw[List.filter_eq_nil_iff]
 constructor
 ·intro h x n hn e
  exact kept_open.mp (fun z=>h n hn (decide_eq_true z)) x e
 ·intro h n hn c
  exact kept_open.mpr (fun x e=>h x n hn e) (of_decide_eq_true c)
theorem Hv{α:Type}{J:It}{ys:List α}{r:α->V}(f:α->V){a D:Addr}{H:Hp}(as:AsSeq J (ys.map r) a H){tc:TT}{te:TE}{c:St}{v0:Option V}{Q:St->Hp->Prop}(p:α->Bool)(len:ys.length<=1000)(hD:H D=none)
  (ht:∀y∈ys,∀G,Same H G->∀M:Bool->Hp->Prop,(∀G',Same G G'->M (p y) G')->tc (some (r y)::c) G M) (he:∀y∈ys,∀G,Same H G->∀M:VK,M (f y) G->te (some (r y)::c) G M)
  (q:∀σ G,Same H G->G D=some (.lst ((ys.filter p).map f))->Q σ G):Aq (K7 0) tc (Df D te) J (v0::c) (upd H D (.lst [])) Q:=by
 refine J4 as (fun i σ G=>(∃v,σ=v::c)/\Same H G/\G D=some (.lst (((ys.take i).filter p).map f))) ⟨⟨_,rfl⟩,Same.new hD,A9⟩ (fun i σ G _ h=>h.2.1.at a) ?_ ?_
 ·rintro i σ G v N hx ⟨⟨v0,rfl⟩,sG,eG⟩ hN
  rw[List.getElem?_map]at hx
  obtain⟨y,hy,rfl⟩:=Option.map_eq_some_iff.mp hx
  have my:=List.mem_of_getElem? hy
  refine ht y my G sG _ fun G' s'=>?_
  have eG:=s' _ _ eG
  have sG:=sG.trans s'
  have hs:(ys.take (i+1)).filter p =(ys.take i).filter p++if p y=true then [y]else []:=by
   rw[C1 hy,List.filter_append,List.filter_cons,List.filter_nil]
  have hl:=List.length_filter_le p (ys.take i)
  rw[List.length_take]at hl
  refine R1 (fun c=>he y my G' sG _ ⟨_,eG,by rw[List.length_map,sizeLine_eq];omega,hN _ _ ⟨⟨_,rfl⟩,sG.upd hD,?_⟩⟩) (fun c=>hN _ _ ⟨⟨_,rfl⟩,sG,?_⟩)
  ·rw[A9,hs,if_pos c,List.map_append];rfl
  ·rw[hs,if_neg c,List.append_nil];exact eG
 ·rintro σ G ⟨_,sG,eG⟩
  rw[List.length_map,List.take_length]at eG
  exact q σ G sG eG
theorem Ui{K:PySem.W.Frag}{H:Hp}{m z:Addr}{ps:List PA2}{Q:VK}(h:H m=some (.lst (E8 ps)))(pin:∀q∈ps,D0 H q)(ok:∀q∈ps,I9 q.2.1=true/\I9 q.2.2=true)(hz:H z=some (.lst []))(q:Q (.bl (decide (ps = []))) H):Vh K (.ref m) (.ref z) H Q :=
 ⟨_,.list [],Cf h pin,by simp only[Rp,Rps];exact⟨z,_,rfl,SqL.of hz,rfl⟩,Qo ok,⟨rfl,by simp[PyData.depth,PyData.depthAll]⟩,by
  have:PyData.eqv (.list (ps.map fun q=>pd q.2)) (.list [])=decide (ps = []):=by
   cases ps with
   | nil=>rfl
   | cons a r=>rw[decide_eq_false (by intro z;cases z),List.map_cons];simp[PyData.eqv,PyData.eqvAll]
  rw[this];exact q⟩
theorem Tq(xs:List Str):PyData.eqv (sd xs) (.list [])=decide (xs = []):=Ot xs []
theorem Vd{K:PySem.W.Frag}{H:Hp}{m z:Addr}{ss:List Str}{Q:VK}(h:H m=some (.lst (ss.map V.str)))(hs:∀y∈ss,I9 y=true)(hz:H z=some (.lst []))(q:Q (.bl (decide (ss = []))) H):Vh K (.ref m) (.ref z) H Q :=
 ⟨sd ss,.list [],V2 (SqL.of h),by simp only[Rp,Rps];exact⟨z,_,rfl,SqL.of hz,rfl⟩,Y6 hs,⟨rfl,by simp[PyData.depth,PyData.depthAll]⟩,by rw[Tq];exact q⟩
section
variable{P:Program}{w:World}{K:PySem.W.Frag}{mg:Str->Option Value}{base:Heap}
theorem X5:FnScope ["_law_names_here", "_law_strikes_here", "_law_some_here", "_law_inside", "_law_hit_here", "_law_open_ones", "_law_kept_here"] ["_law_names_here", "_law_strikes_here", "_law_some_here"] (B7 s_law_looked):=⟨rfl,rfl,rfl,by decide +kernel,rfl,by decide +kernel,by decide +kernel⟩
noncomputable def Dt:Sp:=fun vs H Q _=>∃(n a s:Addr) (ss rs:List Str) (ps:List PA2),vs = [.ref n,.ref a,.ref s]/\H n=some (.lst (ss.map V.str))/\ss.length<=100/\H a=some (.lst (E8 ps))/\(∀q∈ps,D0 H q)/\ps.length<=200/\H s=some (.lst (rs.map V.str))/\rs.length<=100/\(∀y∈rs,I9 y=true)/\(∀q∈ps,I9 q.2.1=true/\I9 q.2.2=true) /\
 ∀t k h ns H',Same H H'->ns.Perm ss->ns.Pairwise leS->H' t=some (.tup [.bl (decide (Aj ps rs = [])),.bl (decide ((rs.filter fun n=>decide (n∈At ps rs)) = [])),.ref k,.ref h])->H' k=some (.lst ((Y0 ns ps rs).map V.str))->H' h=some (.lst ((Ke ps rs).map V.str))->Q (.ref t) H'
set_option maxHeartbeats 2000000 in
theorem By(T:Tx K mg):FnOk P w K mg base CX0 1 T.law_looked.f T.law_looked.fd ["_law_names_here", "_law_strikes_here", "_law_some_here"] Dt:=by
 have sc:=X5
 refine T.law_looked.F.ok X5 (fun vs H Q E h=>?_) (fun cdv A outer s H vs Q E hr h=>?_)
 ·obtain⟨n,a,s,ss,rs,ps,rfl,_⟩:=h
  rfl
 ·obtain⟨n,a,s0,ss,rs,ps,rfl,en,ln,ea,pin,lp,es,lr,nr,np,q⟩:=h
  refine⟨_,(B2 (o9 (i:=3) (N':=["_law_pair", "_law_some_here"]) (cap:=[none,some 2]) (cl:=[("_law_some_here",_)]) sc.nd rfl (by first | exact Or.inl rfl | exact Or.inr rfl) (K2 ⟨⟨rfl,rfl,rfl,rfl⟩,trivial⟩ ⟨rfl,trivial⟩) rfl (piL K (pv 1)) (fun _ _ _ _=>by exact⟨(pgC 0),(P2 (PW.pt (i8 (C4 (V3 K) (G9 (ixT K) (pv 0) B5 (fun _ _=>rfl)) (pv 1) rfl) (f7 (C4 (V3 K) (G9 (ixT K) (pv 0) B5 (fun _ _=>rfl)) (pv 1) rfl))))),(pv 0)⟩))
   (B2 (C6 (i:=4) sc.nd rfl (by first | exact Or.inl rfl | exact Or.inr rfl) (Q9 (N':=["_law_pair", "_law_some_here"]) (cap:=[none,some 2]) (cl:=[("_law_some_here",_)]) (K2 ⟨⟨rfl,rfl,rfl,rfl⟩,trivial⟩ ⟨rfl,trivial⟩) rfl (piL K (pv 1)) (fun _ _ _ _=>by exact⟨(pgC 0),(P2 (C4 (V3 K) (G9 (ixT K) (pv 0) B5 (fun _ _=>rfl)) (pv 1) rfl)),(G9 (ixT K) (pv 0) B5 (fun _ _=>rfl))⟩)))
   (B2 (C6 (i:=5) sc.nd rfl (by first | exact Or.inl rfl | exact Or.inr rfl) (Q9 (N':=["_law_pair", "_law_hit_here"]) (cap:=[none,some 4]) (cl:=[("_law_hit_here",_)]) (K2 ⟨⟨rfl,rfl,rfl,rfl⟩,trivial⟩ ⟨rfl,trivial⟩) rfl (piL K (pv 1)) (fun _ _ _ _=>by exact⟨(pgC 0),(P2 (C4 (X3 K) (G9 (ixT K) (pv 0) B5 (fun _ _=>rfl)) (pv 1) rfl)),(G9 (ixT K) (pv 0) B5 (fun _ _=>rfl))⟩)))
   (B2 (o9 (i:=6) (N':=["_law_name", "_law_open_ones"]) (cap:=[none,some 5]) (cl:=[("_law_open_ones",_)]) sc.nd rfl (by first | exact Or.inl rfl | exact Or.inr rfl) (K2 ⟨⟨rfl,rfl,rfl,rfl⟩,trivial⟩ ⟨rfl,trivial⟩) rfl (piL K (D6 (p9 K) T.b_sorted K3 (A8 (pv 0) B0))) (fun _ _ _ _=>by exact⟨(pgC 0),(P2 (C4 (X3 K) (pv 0) (pv 1) rfl)),(pv 0)⟩))
   (@B3 _ _ _ (@C0 _ _ _ _ (@O2 _ _ _ _ _ (@A8 _ _ _ _ _ (C9 (Hr K hr.units) (pv 3) (J1 B0) (E3 _)) (@A8 _ _ _ _ _ (C9 (Hr K hr.units) (Q9 (N':=["_law_name", "_law_open_ones"]) (cap:=[none,some 5]) (cl:=[("_law_open_ones",_)]) (K2 ⟨⟨rfl,rfl,rfl,rfl⟩,trivial⟩ ⟨rfl,trivial⟩) rfl (piL K (pv 2)) (fun _ _ _ _=>by exact⟨(pgC 0),(P2 (C4 (V3 K) (pv 0) (pv 1) rfl)),(pv 0)⟩)) (J1 B0) (E3 _)) (@A8 _ _ _ _ _ (pv 6) (@A8 _ _ _ _ _ (pv 4) B0 (by rfl)) (by rfl)) (by rfl)) (by rfl))))))))),?_⟩
  refine C2 fun N1 hN1=>?_
  refine ex1 rfl ⟨a,rfl,⟨_,SqL.of ea⟩,fun D1 hD1=>?_⟩
  refine Hv (fun q:PA2=>V.ref q.1) (asL (SqL.of ea)) (fun q=>decide (q.2.1∈rs)&&decide (q.2.2∈rs)) (by omega) hD1 (fun q hq G sG M hM=>?_) (fun q hq G sG M hM=>ex1 rfl hM) fun σ1 H1 s1 e1=>?_
  ·have e:=sG _ _ (pin q hq)
   refine ex1 rfl ⟨q.1,_,B8 rfl rfl ⟨SqT.of e,rfl,ex1 rfl (I0 (.inl (SqL.of (sG _ _ es))) ⟨_,rfl,?_⟩)⟩⟩
   refine R1 (fun c=>?_) (fun c=>?_)
   ·refine ex1 rfl ⟨q.1,_,B8 rfl rfl ⟨SqT.of e,rfl,ex1 rfl (I0 (.inl (SqL.of (sG _ _ es))) ⟨_,rfl,?_⟩)⟩⟩
    have:=hM G (fun b o e=>e)
    rw[c,Bool.true_and]at this
    exact this
   ·have:=hM G (fun b o e=>e)
    rw[Bool.eq_false_iff.mpr c,Bool.false_and]at this
    exact this
  refine hN1 _ _ (C2 fun N2 hN2=>?_)
  have ea1:=s1 _ _ ea
  refine ex1 rfl ⟨a,rfl,⟨_,SqL.of ea1⟩,fun D2 hD2=>?_⟩
  refine Hv (fun q:PA2=>V.str q.2.2) (asL (SqL.of ea1)) (fun q=>decide (q.2.1∈rs)) (by omega) hD2 (fun q hq G sG M hM=>?_) (fun q hq G sG M hM=>ex1 rfl ⟨q.1,_,B8 rfl rfl ⟨SqT.of ((s1.trans sG) _ _ (pin q hq)),rfl,hM⟩⟩) fun σ2 H2 s2 e2=>?_
  ·exact ex1 rfl ⟨q.1,_,B8 rfl rfl ⟨SqT.of ((s1.trans sG) _ _ (pin q hq)),rfl,ex1 rfl (I0 (.inl (SqL.of ((s1.trans sG) _ _ es))) ⟨_,rfl,hM G fun b o e=>e⟩)⟩⟩
  have e1:=s2 _ _ e1
  have s2:=s1.trans s2
  have e2:H2 D2=some (.lst ((Ke ps rs).map V.str)):=by rw[e2];unfold Ke;rw[List.map_map];rfl
  refine hN2 _ _ (C2 fun N3 hN3=>?_)
  have ea2:=s2 _ _ ea
  refine ex1 rfl ⟨a,rfl,⟨_,SqL.of ea2⟩,fun D3 hD3=>?_⟩
  refine Hv (fun q:PA2=>V.str q.2.2) (asL (SqL.of ea2)) (fun q=>!decide (q.2.1∈Ke ps rs)) (by omega) hD3 (fun q hq G sG M hM=>?_) (fun q hq G sG M hM=>ex1 rfl ⟨q.1,_,B8 rfl rfl ⟨SqT.of ((s2.trans sG) _ _ (pin q hq)),rfl,hM⟩⟩) fun σ3 H3 s3 e3=>?_
  ·exact ex1 rfl ⟨q.1,_,B8 rfl rfl ⟨SqT.of ((s2.trans sG) _ _ (pin q hq)),rfl,ex1 rfl (O8 (.inl (SqL.of (sG _ _ e2))) ⟨_,rfl,hM G fun b o e=>e⟩)⟩⟩
  have e1:=s3 _ _ e1
  have e2:=s3 _ _ e2
  have s3:=s2.trans s3
  have e3:H3 D3=some (.lst ((At ps rs).map V.str)):=by rw[e3];unfold At;rw[List.map_map];rfl
  refine hN3 _ _ (C2 fun N4 hN4=>?_)
  refine ex1 rfl ⟨n,ss,rfl,SqL.of (s3 _ _ en),fun l ns hl pm srt=>?_⟩
  have ul:=Same.new (o:=.lst (ns.map V.str)) hl
  have fl:(upd H3 l (.lst (ns.map V.str))) l=some (.lst (ns.map V.str)):=A9
  generalize upd H3 l (.lst (ns.map V.str))=H4 at ul fl⊢
  have s4:=s3.trans ul
  have e1:=ul _ _ e1
  have e2:=ul _ _ e2
  have e3:=ul _ _ e3
  refine⟨l,rfl,⟨_,SqL.of fl⟩,fun D4 hD4=>?_⟩
  refine Hv V.str (asL (SqL.of fl)) (fun y=>!decide (y∈At ps rs)) (by rw[pm.length_eq];omega) hD4 (fun y hy G sG M hM=>ex1 rfl (ex1 rfl (O8 (.inl (SqL.of (sG _ _ e3))) ⟨_,rfl,hM G fun b o e=>e⟩))) (fun y hy G sG M hM=>ex1 rfl hM) fun σ5 H5 s5 e5=>?_
  have e1:=s5 _ _ e1
  have e2:=s5 _ _ e2
  have e3:=s5 _ _ e3
  have s5:=s4.trans s5
  refine hN4 _ _ ?_
  refine ex1 rfl ⟨Nat.zero_le _,fun z hz=>?_⟩
  have uz:=Same.new (o:=.lst []) hz
  have fz:(upd H5 z (.lst [])) z=some (.lst []):=A9
  generalize upd H5 z (.lst [])=H6 at uz fz⊢
  have s6:=s5.trans uz
  refine Ui (uz _ _ e1) (fun q hq=>s6 _ _ (pin q (List.mem_filter.mp hq).1)) (fun q hq=>np q (List.mem_filter.mp hq).1) fz ?_
  have es6:=s6 _ _ es
  refine ex1 rfl ⟨s0,rfl,⟨_,SqL.of es6⟩,fun D5 hD5=>?_⟩
  refine Hv V.str (asL (SqL.of es6)) (fun y=>decide (y∈At ps rs)) (by omega) hD5 (fun y hy G sG M hM=>ex1 rfl (ex1 rfl (I0 (.inl (SqL.of (sG _ _ (uz _ _ e3)))) ⟨_,rfl,hM G fun b o e=>e⟩))) (fun y hy G sG M hM=>ex1 rfl hM) fun σ7 H7 s7 e7=>?_
  refine⟨Nat.zero_le _,fun z2 hz2=>?_⟩
  have uy:=Same.new (o:=.lst []) hz2
  refine Vd (uy _ _ e7) (fun y hy=>nr y (List.mem_filter.mp hy).1) A9 ?_
  refine ex1 rfl (ex1 rfl ⟨by show 4<=sizeLine;decide,fun t ht=>?_⟩)
  have ut:=(s7.trans uy).trans (Same.new (o:=.tup [.bl (decide (Aj ps rs = [])),.bl (decide ((rs.filter fun n=>decide (n∈At ps rs)) = [])),.ref D4,.ref D2]) ht)
  exact q t D4 D2 ns _ (s6.trans ut) pm srt A9 (ut _ _ (uz _ _ e5)) (ut _ _ (uz _ _ e2))
end
theorem Ti{K:PySem.W.Frag}{x y:Str}{H:Hp}{Q:VK}(o:PySem.PyData.strOk x=true)(o':PySem.PyData.strOk y=true)(q:Q (.bl (decide (x=y))) H):Vh K (.str x) (.str y) H Q:=by
 have e:∀z:Str,Rp K H (.str z) (.str z):=fun z=>by simp only[Rp]
 have p:∀{z:Str},PySem.PyData.strOk z=true->Pl (.str z):=fun o=>⟨by rw[PyData.canLay0];exact o,by rw[PyData.depth];decide⟩
 refine⟨_,_,e x,e y,p o,p o',?_⟩
 rw[PyData.eqv]
 exact q
noncomputable def tyB(b:Bool):Value:=.type (bif b then "list" else "tuple")
theorem Xx{K:PySem.W.Frag}:∀b,PySem.W.kitOne K (tyB b) (.type "list")=some b
 | true=>rfl
 | false=>rfl
theorem Wn{K:PySem.W.Frag}:∀b,PySem.W.kitOne K (tyB b) (.type "tuple")=some !b
 | true=>rfl
 | false=>rfl
theorem zAb{K:PySem.W.Frag}:∀b,PySem.W.kitAny K (tyB b) (["list", "tuple"].map Value.type)=some true
 | true=>rfl
 | false=>rfl
theorem Wr(b:Bool):(!decide (V.bl b=V.bl b))=false:=congrArg _ (decide_eq_true rfl)
noncomputable def LT(b:Bool)(xs:List V):HO:=bif b then .lst xs else .tup xs
theorem Ny{K:PySem.W.Frag}{H:Hp}{l:Addr}{xs:List V}:∀{b:Bool},H l=some (LT b xs)->TyOf K H (.ref l) (tyB b)
 | true,h=>.lst h
 | false,h=>.tup h
theorem Wd{H:Hp}{l:Addr}{xs:List V}:∀{b:Bool},H l=some (LT b xs)->H l=some (.lst xs)\/H l=some (.tup xs)
 | true,h=>.inl h
 | false,h=>.inr h
noncomputable def sqB(K:PySem.W.Frag)(b:Bool):Hp->Addr->List V->Prop:=bif b then SqL K else SqT K
theorem Kf{K:PySem.W.Frag}{H:Hp}{l:Addr}{xs:List V}:∀{b:Bool},H l=some (LT b xs)->sqB K b H l xs
 | true,h=>SqL.of h
 | false,h=>SqT.of h
theorem Sl{K:PySem.W.Frag}{H:Hp}{l:Addr}{xs:List V}{b:Bool}(h:H l=some (LT b xs)):Sqs K H l xs:=(Wd h).imp SqL.of SqT.of
theorem Vs{K:PySem.W.Frag}{H:Hp}{l m:Addr}{xs ys:List V}{R:It->Hp->Prop}:∀{b:Bool},H l=some (LT b xs)->H m=some (LT b ys)->R (Vg (sqB K b) l m) H->zAr K R l m xs ys H
 | true,h,h',q=>.inl ⟨SqL.of h,SqL.of h',q⟩
 | false,h,h',q=>.inr ⟨SqT.of h,SqT.of h',q⟩
section
variable{P:Program}{w:World}{K:PySem.W.Frag}{mg:Str->Option Value}{base:Heap}
theorem y8:FnScope ["_law_found", "_law_due"] ["_law_found", "_law_due"] (B7 s_law_same):=⟨rfl,rfl,rfl,by decide +kernel,rfl,by decide +kernel,by decide +kernel⟩
noncomputable def Gf:Sp:=fun _ _ _ _=>False
theorem La{f:Addr}{fd:FuncData}{ps:List Str}:FnOk P w K mg base CX0 0 f fd ps Gf:=⟨fun _ _ _ _ h=>h.elim,fun _ _ _ _ _ _ _ _ _ _ _ _ _ h=>h.elim⟩
noncomputable def P4(S:Sp):Sp:=fun vs H Q _=>(∃a b:Str,vs = [.str a,.str b]/\PySem.PyData.strOk a=true/\PySem.PyData.strOk b=true/\∀H',Same H H'->Q (.bl (decide (a=b))) H') \/
 ∃(l m:Addr) (b:Bool) (xs ys:List V) (g:Nat->Bool),vs = [.ref l,.ref m]/\H l=some (LT b xs)/\H m=some (LT b ys)/\xs.length=ys.length/\xs.length<=200 /\
  (∀(i:Nat) (x y:V) (H':Hp) (Q':VK) (E:XK),xs[i]?=some x->ys[i]?=some y->Same H H'->(∀H'',Same H' H''->Q' (.bl (g i)) H'')->S [x,y] H' Q' E)/\∀H',Same H H'->Q (.bl (((List.range xs.length).map g).all id)) H'
theorem K4(T:Tx K mg){n:Nat}{S:Sp}(G_law_same:FnOk P w K mg base CX0 n T.law_same.f T.law_same.fd ["_law_found", "_law_due"] S):FnOk P w K mg base CX0 (n+1) T.law_same.f T.law_same.fd ["_law_found", "_law_due"] (P4 S):=by
 have sc:=y8
 refine T.law_same.F.ok y8 (fun vs H Q E h=>?_) (fun cdv A outer s H vs Q E hr h=>?_)
 ·rcases h with⟨a,b,rfl,_⟩ | ⟨l,m,b,xs,ys,g,rfl,_⟩
  ·rfl
  ·rfl
 ·refine⟨_,(B2 (J8 (G7 (D6 (Qr K) T.b_isinstance B9 (A8 (pv 1) (A8 (O2 (A8 (S5 T.b_list U3) (A8 (S5 T.b_tuple V5) B0))) B0)))) (B2 (J8 (PW.pt (Az (C4 Ma (D6 (J5 K) T.b_isinstance B9 (A8 (pv 0) (A8 (S5 T.b_list U3) B0))) (D6 (J5 K) T.b_isinstance B9 (A8 (pv 1) (A8 (S5 T.b_list U3) B0))) (E3 _)) (T3 (C4 Ma (D6 (J5 K) T.b_isinstance B9 (A8 (pv 0) (A8 (S5 T.b_tuple V5) B0))) (D6 (J5 K) T.b_isinstance B9 (A8 (pv 1) (A8 (S5 T.b_tuple V5) B0))) (E3 _))))) (B3 (C0 m9)) D9)
   (B3 (C0 (K6 (C9 Q3 (D6 (J9 K) T.b_len J3 (A8 (pv 0) B0)) (D6 (J9 K) T.b_len J3 (A8 (pv 1) B0)) (E3 _)) (K1 (D6 (T0 K) T.b_all T6 (A8 (Q9 (N':=["_law_one", "_law_other"]) (cap:=[none,none]) (cl:=[]) (K2 trivial trivial) rfl (zBo K T.b_zip (A8 (pv 0) (A8 (pv 1) B0))) (fun _ _ _ _=>by exact⟨(pgT K (n:=2) (C7 (pgC 0) (C7 (pgC 1) M6))),E9,(C5 T.law_same G_law_same (hr.mono (Nat.le_refl _)) (A8 (pv 0) (A8 (pv 1) B0)))⟩)) B0))))))) D9)
   (B2 (J8 (PW.pt (Az (C4 Yb (pv 1) Wy (E3 _)) (T3 (G7 (D6 (J5 K) T.b_isinstance B9 (A8 (pv 1) (A8 (S5 T.b_str Im) B0))))))) (B3 (C0 (K6 (C9 (Hr K hr.units) (pv 0) (pv 1) (E3 _)) (K1 (C9 Q3 (D6 (J5 K) T.b_isinstance B9 (A8 (pv 0) (A8 (S5 T.b_str Im) B0))) (D6 (J5 K) T.b_isinstance B9 (A8 (pv 1) (A8 (S5 T.b_str Im) B0))) (E3 _)))))) D9)
   (B2 (J8 (G7 (D6 (J5 K) T.b_isinstance B9 (A8 (pv 1) (A8 (S5 T.b_bool Di) B0)))) (B3 (C0 (K6 (D6 (J5 K) T.b_isinstance B9 (A8 (pv 0) (A8 (S5 T.b_bool Di) B0))) (K1 (C9 (Hr K hr.units) (pv 0) (pv 1) (E3 _)))))) D9)
   (B3 (C0 (K6 (D6 (J5 K) T.b_isinstance B9 (A8 (pv 0) (A8 (S5 T.b_int Rj) B0))) (K6 (Sd (D6 (J5 K) T.b_isinstance B9 (A8 (pv 0) (A8 (S5 T.b_bool Di) B0)))) (K1 (C9 (Hr K hr.units) (pv 0) (pv 1) (E3 _)))))))))),?_⟩
  rcases h with⟨a,b,rfl,oa,ob,q⟩ | ⟨l,m,b,xs,ys,g,rfl,hl,hm,el,len,hS,q⟩
  ·refine ex1 rfl ⟨by show 2<=sizeLine;decide,fun t ht=>?_⟩
   have s1:=Same.new (o:=.tup [.ty "list",.ty "tuple"]) ht
   refine⟨.str b,t,["list", "tuple"],_,false,rfl,A9,.str b,.inl ⟨b,rfl⟩,rfl,?_⟩
   generalize upd H t (.tup [.ty "list",.ty "tuple"])=H1 at s1⊢
   refine ex1 rfl (S6 ?_)
   refine ex1 rfl ⟨rfl,ex1 rfl (S6 ?_)⟩
   refine ex1 rfl ⟨.str b, "str",_,true,rfl,.str b,rfl,ex1 rfl (Pw ?_)⟩
   refine ex1 rfl (ex1 rfl (Ti oa ob ⟨_,rfl,R1 (fun c=>?_) fun c=>?_⟩))
   ·have q:=q _ s1
    rw[c]at q
    refine ex1 rfl ⟨.str a, "str",_,true,rfl,.str a,rfl,ex1 rfl ⟨.str b, "str",_,true,rfl,.str b,rfl,?_⟩⟩
    exact⟨rfl,q⟩
   ·have q:=q _ s1
    rw[Bool.eq_false_iff.mpr c]at q
    exact q
  ·refine ex1 rfl ⟨by show 2<=sizeLine;decide,fun t ht=>?_⟩
   have s1:=Same.new (o:=.tup [.ty "list",.ty "tuple"]) ht
   have l1:=s1 _ _ hl
   have m1:=s1 _ _ hm
   refine⟨.ref m,t,["list", "tuple"],_,true,rfl,A9,Ny m1,.inr ⟨m,_,rfl,Wd m1⟩,zAb b,?_⟩
   generalize upd H t (.tup [.ty "list",.ty "tuple"])=H1 at s1 l1 m1⊢
   refine ex1 rfl (Pw ?_)
   refine ex1 rfl ⟨.ref l, "list",_,b,rfl,Ny l1,Xx b,ex1 rfl ⟨.ref m, "list",_,b,rfl,Ny m1,Xx b,rfl,?_⟩⟩
   refine⟨false,congrArg V.bl (Wr b),S6 ?_⟩
   refine ex1 rfl ⟨.ref l, "tuple",_,_,rfl,Ny l1,Wn b,ex1 rfl ⟨.ref m, "tuple",_,_,rfl,Ny m1,Wn b,rfl,?_⟩⟩
   refine⟨false,congrArg V.bl (Wr !b),S6 ?_⟩
   refine ex1 rfl (B8 (a:=l) rfl (Sl l1) (ex1 rfl (B8 (a:=m) rfl (Sl m1) ⟨rfl,ex1 rfl ?_⟩)))
   refine R1 (fun _=>?_) (fun h=>absurd (decide_eq_true (congrArg (fun k:Nat=>V.int k) el)) h)
   refine ex1 rfl (ex1 rfl ⟨l,m,xs,ys,?_⟩)
   refine⟨rfl,Vs l1 m1 fun D hD=>?_⟩
   refine Be (n:=xs.length) (fun i σ H2=>(∃v0 v1,σ = [v0,v1])/\Same H1 H2/\H2 D=some (.lst (((List.range i).map g).map V.bl))) ⟨⟨_,_,rfl⟩,Same.new hD,A9⟩ ?_ ?_ ?_ ?_
   ·rintro i σ H2 hi ⟨_,s2,_⟩
    exact⟨_,_,_,_,Kf (s2 _ _ l1),Kf (s2 _ _ m1),Nat.le_of_eq el,List.getElem?_eq_getElem hi,List.getElem?_eq_getElem (el▸hi)⟩
   ·rintro σ H2 ⟨_,s2,_⟩
    exact⟨_,_,Kf (s2 _ _ l1),Kf (s2 _ _ m1),Nat.le_of_eq el,rfl⟩
   ·rintro i σ H2 x H3 N hi ⟨⟨v0,v1,rfl⟩,s2,e2⟩ ⟨u,x,y,rfl,hu,rfl,hx,hy⟩ hN
    have s3:=Same.new (o:=.tup [x,y]) hu
    refine⟨u,ex1 rfl ⟨SqT.of A9,rfl,_,ex1 rfl (B8 rfl rfl ?_)⟩⟩
    refine ex1 rfl (ex1 rfl (hS i x y _ _ _ (hx _ (Kf (s2 _ _ l1))) (hy _ (Kf (s2 _ _ m1))) ((s1.trans s2).trans s3) fun H4 s4=>?_))
    refine⟨_,s4 _ _ (s3 _ _ e2),by rw[List.length_map,List.length_map,List.length_range,sizeLine_eq];omega,hN _ _ ⟨⟨_,_,rfl⟩,((s2.trans s3).trans s4).upd hD,?_⟩⟩
    rw[A9,List.range_succ,List.map_append,List.map_append];rfl
   ·rintro σ H2 ⟨_,s2,e2⟩
    exact⟨D,_,rfl,SqL.of e2,q _ (s1.trans s2)⟩
end
theorem V0{a b:Bool}{A:Prop}(ha:a=true↔A)(hb:b=true↔A):decide (a=b)=true:=decide_eq_true (Bool.eq_iff_iff.mpr (ha.trans hb.symm))
theorem Do{ps qs:List PA2}(pq:qs.Perm ps)(x y:Str):Y4 qs x y↔Y4 ps x y:=by
 unfold Y4
 exact⟨fun⟨q,h,e⟩=>⟨q,pq.mem_iff.mp h,e⟩,fun⟨q,h,e⟩=>⟨q,pq.mem_iff.mpr h,e⟩⟩
theorem Ux{ps qs:List PA2}{rs ss:List Str}(pq:qs.Perm ps)(pr:rs.Perm ss):Q0 ps ss↔Q0 qs rs :=
 ⟨fun h m hm n hn e=>h m (pr.mem_iff.mp hm) n (pr.mem_iff.mp hn) ((Do pq _ _).mp e),fun h m hm n hn e=>h m (pr.mem_iff.mpr hm) n (pr.mem_iff.mpr hn) ((Do pq _ _).mpr e)⟩
theorem Ft{ps qs:List PA2}{rs ss:List Str}(pq:qs.Perm ps)(pr:rs.Perm ss)(y:Str):Du ps ss y↔Du qs rs y :=
 ⟨fun h x e=>let⟨m,hm,e'⟩:=h x ((Do pq _ _).mp e);⟨m,pr.mem_iff.mpr hm,(Do pq _ _).mpr e'⟩,fun h x e=>let⟨m,hm,e'⟩:=h x ((Do pq _ _).mpr e);⟨m,pr.mem_iff.mp hm,(Do pq _ _).mp e'⟩⟩
theorem Xd{ps qs:List PA2}{rs ss:List Str}(pq:qs.Perm ps)(pr:rs.Perm ss):Bx ps ss↔Bx qs rs :=
 ⟨fun h x n hn e=>(Ft pq pr n).mp (fun x e=>h x n (pr.mem_iff.mp hn) e) x e,fun h x n hn e=>(Ft pq pr n).mpr (fun x e=>h x n (pr.mem_iff.mpr hn) e) x e⟩
theorem Pp(n:Nat):((List.range n).map fun _=>true).all id=true:=List.all_eq_true.mpr fun b hb=>by
 obtain⟨_,_,rfl⟩:=List.mem_map.mp hb
 rfl
theorem Wt{H H':Hp}{ss:List Str}{i:Nat}{x y:V}{S:Sp}{Q:VK}{E:XK}(hx:(ss.map V.str)[i]?=some x)(hy:(ss.map V.str)[i]?=some y)(ok:∀x∈ss,PySem.PyData.strOk x=true)(q:∀H'',Same H' H''->Q (.bl true) H''):P4 S [x,y] H' Q E:=by
 cases Option.some.inj (hx.symm.trans hy)
 rw[List.getElem?_map]at hx
 obtain⟨z,hz,rfl⟩:=Option.map_eq_some_iff.mp hx
 have o:=ok z (List.mem_of_getElem? hz)
 exact .inl ⟨z,z,rfl,o,o,fun H'' s''=>by rw[decide_eq_true rfl];exact q H'' s''⟩
theorem zAa{ta tb:TE}{σ:St}{H:Hp}{Q:VK}{b1 b2:Bool}(h1:∀R:VK,R (.bl b1) H->ta σ H R)(h2:∀R:VK,R (.bl b2) H->tb σ H R)(q:Q (.bl (b1&&b2)) H):Xt ta tb σ H Q :=
 h1 _ ⟨b1,rfl,by
  cases b1
  ·exact S6 q
  ·exact Pw (h2 _ q)⟩
theorem orF{t u:TT}{σ:St}{H:Hp}{Q:Bool->Hp->Prop}(h1:∀R:Bool->Hp->Prop,R false H->t σ H R)(h2:u σ H Q):tOr t u σ H Q:=h1 _ (S6 h2)
theorem Wk{H:Hp}{l:Addr}{ns ss hs:List Str}(h:WL H l (wBy ns ss hs))(nm:∀n∈ns,I9 n=true)(len:ns.length<=100):∃ps,H l=some (.lst (E8 ps))/\WS H l ps/\(ps.map fun q=>q.2)=wBy ns ss hs:=by
 obtain⟨ps,e,p,k⟩:=h
 refine⟨ps,e,⟨.inl e,p,fun q hq=>?_,?_⟩,k⟩
 ·have:q.2∈wBy ns ss hs:=k▸List.mem_map.mpr ⟨q,hq,rfl⟩
  obtain⟨n,hn,e⟩:=List.mem_map.mp this
  rw[<-e]
  exact⟨O1 (nm n hn),Ud _ (Dx ..)⟩
 ·have:=congrArg List.length k
  rw[List.length_map,List.length_map]at this
  omega
theorem Kg{ns rs rs':List Str}{ps qs:List PA2}{b1 b2:Bool}(pq:qs.Perm ps)(pr:rs'.Perm rs)(sub:rs.Sublist ns)(srt:ns.Pairwise leS)(nd:ns.Nodup)(hb1:b1=true↔Q0 qs rs')(hb2:b2=true↔Bx qs rs'):(b1 &&(b2&&decide (Y0 ns ps rs=rs)))=true↔Ao ns qs rs':=by
 rw[Bool.and_eq_true,Bool.and_eq_true,hb1,hb2,decide_eq_true_iff,<-and_assoc]
 refine and_congr Iff.rfl ?_
 have mk:∀n∈ns,n∈Y0 ns ps rs↔Du qs rs' n:=fun n hn=>by
  unfold Y0
  rw[List.mem_filter,<-Ft pq pr,<-kept_open]
  exact⟨fun h z=>(by rw[decide_eq_true z]at h;exact absurd h.2 (by decide)),fun h=>⟨hn,by rw[decide_eq_false h];rfl⟩⟩
 have hsub:(Y0 ns ps rs).Sublist ns:=List.filter_sublist
 constructor
 ·intro e n hn
  rw[pr.mem_iff,<-mk n hn,e]
 ·intro h
  refine O5 (srt.sublist hsub) (srt.sublist sub) ((List.perm_ext_iff_of_nodup (hsub.nodup nd) (sub.nodup nd)).mpr fun y=>?_)
  constructor
  ·intro hy
   have:=hsub.mem hy
   exact pr.mem_iff.mp ((h y this).mpr ((mk y this).mp hy))
  ·intro hy
   have:=sub.mem hy
   exact(mk y this).mpr ((h y this).mp (pr.mem_iff.mpr hy))
theorem Nf{ns ss rs rs':List Str}{ps qs:List PA2}{b1:Bool}(pq:qs.Perm ps)(pr:rs'.Perm rs)(pn:ns.Perm ss)(hb1:b1=true↔Q0 qs rs'):(b1 &&(ss.map fun y=>decide (y∈rs)||decide (y∈Ke ps rs)).all id)=true↔Q6 ns qs rs':=by
 rw[Bool.and_eq_true,hb1,List.all_eq_true]
 refine and_congr Iff.rfl ?_
 have hit:∀n,n∈Ke ps rs↔∃m∈rs',Y4 qs m n:=fun n=>mem_hitL.trans ⟨fun⟨m,h,e⟩=>⟨m,pr.mem_iff.mpr h,(Do pq _ _).mpr e⟩,fun⟨m,h,e⟩=>⟨m,pr.mem_iff.mp h,(Do pq _ _).mp e⟩⟩
 constructor
 ·intro h n hn
  have:=h _ (List.mem_map.mpr ⟨n,pn.mem_iff.mp hn,rfl⟩)
  rcases(Bool.or_eq_true _ _).mp this with z | z
  ·exact .inl (pr.mem_iff.mpr (of_decide_eq_true z))
  ·exact .inr ((hit n).mp (of_decide_eq_true z))
 ·intro h b hb
  obtain⟨n,hn,rfl⟩:=List.mem_map.mp hb
  show(decide (n∈rs)||decide (n∈Ke ps rs))=true
  rw[Bool.or_eq_true]
  rcases h n (pn.mem_iff.mpr hn)with z | z
  ·exact .inl (decide_eq_true (pr.mem_iff.mp z))
  ·exact .inr (decide_eq_true ((hit n).mpr z))
section
variable{P:Program}{w:World}{K:PySem.W.Frag}{mg:Str->Option Value}{base:Heap}
theorem Q1:FnScope ["_law_left_here", "_law_web", "_law_names_here", "_law_strikes_here", "_law_some_here", "_law_quiet", "_law_back", "_law_kept_here", "_law_hit_here", "_law_handed_here", "_law_whole", "_law_full"] ["_law_left_here", "_law_web", "_law_names_here", "_law_strikes_here", "_law_some_here"] (B7 s_law_set_right):=⟨rfl,rfl,rfl,by decide +kernel,rfl,by decide +kernel,by decide +kernel⟩
noncomputable def i5(C:Addr):Sp:=fun vs H Q _=>∃(p x n a s:Addr) (c:Int) (ss ns rs:List Str) (ps qs:List PA2),vs = [.ref p,.ref x,.ref n,.ref a,.ref s]/\LeftAt H p c/\c<=900000/\WebAt C H x ns qs/\H n=some (.lst (ss.map V.str))/\ns.Perm ss/\(∀y∈ns,I9 y=true) /\
 H a=some (.lst (E8 ps))/\(∀q∈ps,D0 H q)/\qs.Perm ps/\H s=some (.lst (rs.map V.str))/\rs.Sublist ns/\∀H',Sm [p] H H'->LeftAt H' p (c+3)->Q (.bl true) H'
set_option maxHeartbeats 4000000 in
theorem l8(T:Tx K mg):FnOk P w K mg base CX0 7 T.law_set_right.f T.law_set_right.fd ["_law_left_here", "_law_web", "_law_names_here", "_law_strikes_here", "_law_some_here"] (i5 T.CWeb):=by
 have G_law_looked:FnOk P w K mg base CX0 1 T.law_looked.f T.law_looked.fd ["_law_names_here", "_law_strikes_here", "_law_some_here"] Dt:=By T
 have G_law_handed:FnOk P w K mg base CX0 3 T.law_handed.f T.law_handed.fd ["_law_left_here", "_law_some_here"] Fe:=Cb T
 have G_law_says:FnOk P w K mg base CX0 1 T.law_says.f T.law_says.fd ["_law_found", "_law_due"] Hf:=w9 T
 have G_is_quiet:FnOk P w K mg base CX0 4 T.is_quiet.f T.is_quiet.fd ["web", "some"] (Cm K T.CWeb fun _=>S8):=T7 T
 have G_strikes_back:FnOk P w K mg base CX0 4 T.strikes_back.f T.strikes_back.fd ["web", "some"] (O0 K T.CWeb fun _=>Bx):=Q5 T
 have G_stands:FnOk P w K mg base CX0 5 T.stands.f T.stands.fd ["web", "some"] (O0 K T.CWeb fun _=>Ij):=Fm T
 have G_kept_by:FnOk P w K mg base CX0 4 T.kept_by.f T.kept_by.fd ["web", "some"] (Y9 K T.CWeb):=Ba T
 have G_is_whole:FnOk P w K mg base CX0 6 T.is_whole.f T.is_whole.fd ["web", "some"] (y4 K T.CWeb Ao):=Ab T
 have G_is_outright:FnOk P w K mg base CX0 5 T.is_outright.f T.is_outright.fd ["web", "some"] (O0 K T.CWeb Q6):=As T
 have G_words_by:FnOk P w K mg base CX0 4 T.words_by.f T.words_by.fd ["web", "some"] (U1 K T.CWeb):=r6 T
 have G_is_telling:FnOk P w K mg base CX0 4 T.is_telling.f T.is_telling.fd ["web", "words"] (P1 T.CWeb):=X6 T
 have G_law_same:FnOk P w K mg base CX0 2 T.law_same.f T.law_same.fd ["_law_found", "_law_due"] (P4 (P4 Gf)):=K4 T (K4 T La)
 have sc:=Q1
 refine T.law_set_right.F.ok Q1 (fun vs H Q E h=>?_) (fun cdv A outer s H vs Q E hr h=>?_)
 ·obtain⟨p,x,n,a,s,c,ss,ns,rs,ps,qs,rfl,_⟩:=h
  rfl
 ·obtain⟨p,x,n,a,s0,c,ss,ns,rs,ps,qs,rfl,hL,c1,hW,en,pn,nm,ea,pin,pq,es,sub,q⟩:=h
  have okw:=hW.ok
  have lns:=okw.len
  have lr:rs.length<=100:=Nat.le_trans sub.length_le lns
  have mr:∀y∈rs,y∈ns:=fun y hy=>sub.mem hy
  have memp:∀q∈ps,q.2.1∈ns/\q.2.2∈ns:=fun q hq=>okw.mem q (pq.mem_iff.mpr hq)
  refine⟨_,(@B2 _ _ _ _ _ (Bq (C5 T.law_looked G_law_looked (hr.mono (by decide)) (@A8 _ _ _ _ _ (pv 2) (@A8 _ _ _ _ _ (pv 3) (@A8 _ _ _ _ _ (pv 4) B0 (by rfl)) (by rfl)) (by rfl))) (pgT K (n:=4) (C7 (E1 (i:=5) sc.nd rfl (by first | exact Or.inl rfl | exact Or.inr rfl)) (C7 (E1 (i:=6) sc.nd rfl (by first | exact Or.inl rfl | exact Or.inr rfl)) (C7 (E1 (i:=7) sc.nd rfl (by first | exact Or.inl rfl | exact Or.inr rfl)) (C7 (E1 (i:=8) sc.nd rfl (by first | exact Or.inl rfl | exact Or.inr rfl)) M6))))))
   (B2 (C6 (i:=9) sc.nd rfl (by first | exact Or.inl rfl | exact Or.inr rfl) (C5 T.law_handed G_law_handed (hr.mono (by decide)) (A8 (pv 0) (A8 (pv 4) B0))))
   (B2 (J8 (PW.pt (Az (M2 (G7 (C5 T.law_says G_law_says (hr.mono (by decide)) (A8 (C5 T.is_quiet G_is_quiet (hr.mono (by decide)) (A8 (pv 1) (A8 (pv 9) B0))) (A8 (pv 5) B0))))) (T3 (M2 (G7 (C5 T.law_says G_law_says (hr.mono (by decide)) (A8 (C5 T.strikes_back G_strikes_back (hr.mono (by decide)) (A8 (pv 1) (A8 (pv 9) B0))) (A8 (pv 6) B0)))))))) (B3 (C0 m9)) D9)
   (B2 (J8 (PW.pt (Az (M2 (G7 (C5 T.law_says G_law_says (hr.mono (by decide)) (A8 (C5 T.stands G_stands (hr.mono (by decide)) (A8 (pv 1) (A8 (pv 9) B0))) (A8 (K6 (pv 5) (K1 (pv 6))) B0))))) (T3 (M2 (G7 (C5 T.law_same G_law_same (hr.mono (by decide)) (A8 (C5 T.kept_by G_kept_by (hr.mono (by decide)) (A8 (pv 1) (A8 (pv 9) B0))) (A8 (pv 7) B0)))))))) (B3 (C0 m9)) D9)
   (B2 (C6 (i:=10) sc.nd rfl (by first | exact Or.inl rfl | exact Or.inr rfl) (K6 (pv 5) (K6 (pv 6) (K1 (C9 (Hr K hr.units) (pv 7) (pv 4) (E3 _))))))
   (B2 (C6 (i:=11) sc.nd rfl (by first | exact Or.inl rfl | exact Or.inr rfl) (K6 (pv 5) (K1 (D6 (T0 K) T.b_all T6 (A8 (Q9 (N':=["_law_name", "_law_some_here", "_law_hit_here"]) (cap:=[none,some 4,some 8]) (cl:=[("_law_some_here",_),("_law_hit_here",_)]) (K2 ⟨⟨rfl,rfl,rfl,rfl⟩,⟨⟨rfl,rfl,rfl,rfl⟩,trivial⟩⟩ ⟨rfl,⟨rfl,trivial⟩⟩) rfl (piL K (pv 2)) (fun _ _ _ _=>by exact⟨(pgC 0),E9,(Uo (C9 (V3 K) (pv 0) (pv 1) rfl) (K1 (C9 (V3 K) (pv 0) (pv 2) rfl)))⟩)) B0)))))
   (B2 (J8 (PW.pt (Az (M2 (G7 (C5 T.law_says G_law_says (hr.mono (by decide)) (A8 (C5 T.is_whole G_is_whole (hr.mono (by decide)) (A8 (pv 1) (A8 (pv 9) B0))) (A8 (pv 10) B0))))) (T3 (M2 (G7 (C5 T.law_says G_law_says (hr.mono (by decide)) (A8 (C5 T.is_outright G_is_outright (hr.mono (by decide)) (A8 (pv 1) (A8 (pv 9) B0))) (A8 (pv 11) B0)))))))) (B3 (C0 m9)) D9)
   (B2 (J8 (PW.pt (Az (PW.pt (i8 (G7 (pv 11)) (f7 (M2 (G7 (pv 10)))))) (T3 (PW.pt (i8 (G7 (pv 5)) (i8 (G7 (pv 6)) (f7 (C4 (Zu K hr.units) (Q9 (N':=["_law_name", "_law_kept_here"]) (cap:=[none,some 7]) (cl:=[("_law_kept_here",_)]) (K2 ⟨⟨rfl,rfl,rfl,rfl⟩,trivial⟩ ⟨rfl,trivial⟩) rfl (piL K (pv 4)) (fun _ _ _ _=>by exact⟨(pgC 0),(P2 (C4 (X3 K) (pv 0) (pv 1) rfl)),(pv 0)⟩)) (J1 B0) (E3 _))))))))) (B3 (C0 m9)) D9)
   (B3 (C0 (Uo (Sd (pv 5)) (K1 (C5 T.law_says G_law_says (hr.mono (by decide)) (A8 (C5 T.is_telling G_is_telling (hr.mono (by decide)) (A8 (pv 1) (A8 (C5 T.words_by G_words_by (hr.mono (by decide)) (A8 (pv 1) (A8 (pv 9) B0))) B0))) (A8 (pv 10) B0))))))))))))))),?_⟩
  refine C2 fun N1 hN1=>?_
  refine ex1 rfl (ex1 rfl (ex1 rfl ⟨n,a,s0,ss,rs,ps,rfl,en,by rw[<-pn.length_eq];exact lns,ea,pin,by rw[<-pq.length_eq];exact okw.lenq,es,lr,fun y hy=>nm y (mr y hy),fun q hq=>⟨nm _ (memp q hq).1,nm _ (memp q hq).2⟩,fun t k h ns2 H1 s1 pm srt et ek eh=>?_⟩))
  have e2:ns2=ns:=O5 srt okw.srt (pm.trans pn.symm)
  subst e2
  refine⟨t,_,rfl,SqT.of et,rfl,_,_,rfl,_,_,rfl,_,_,rfl,_,_,rfl,rfl,?_⟩
  generalize hb1:decide (Aj ps rs = [])=b1
  generalize hb2:decide ((rs.filter fun n=>decide (n∈At ps rs)) = [])=b2
  refine hN1 _ _ (C2 fun N2 hN2=>?_)
  refine ex1 rfl (ex1 rfl ⟨p,s0,c,rs,rfl,hL.same s1,by omega,s1 _ _ es,lr,fun hd rs' H2 hn2 k2 eh2 pr L2=>?_⟩)
  have L1:=hL.same s1
  have hb1:b1=true↔Q0 qs rs':=by rw[<-hb1,decide_eq_true_iff,Qa];exact Ux pq pr
  have hb2:b2=true↔Bx qs rs':=by rw[<-hb2,decide_eq_true_iff,Us];exact Xd pq pr
  have W2:=(hW.same s1).sm L1 k2
  have n2:=Sm1 k2 (s1 _ _ en) (L1.ne (s1 _ _ en))
  have es2:=Sm1 k2 (s1 _ _ es) (L1.ne (s1 _ _ es))
  have ek2:=Sm1 k2 ek (L1.ne ek)
  have eh3:=Sm1 k2 eh (L1.ne eh)
  have sq2:Sqs K H2 hd (rs'.map V.str):=eh2.imp SqL.of SqT.of
  have mr':∀y∈rs',y∈ns2:=fun y hy=>mr y (pr.mem_iff.mp hy)
  have lr':rs'.length<=100:=by rw[pr.length_eq];exact lr
  refine hN2 _ _ (C2 fun N3 hN3=>?_)
  refine ex1 rfl (ex1 rfl ⟨x,hd,rs',ns2,qs,rfl,W2,sq2,mr',lr',fun H3 s3=>?_⟩)
  refine ex1 rfl ⟨_,_,rfl,?_⟩
  rw[V0 quietB_iff hb1]
  refine⟨_,rfl,S6 ?_⟩
  refine ex1 rfl (ex1 rfl ⟨x,hd,rs',ns2,qs,rfl,W2.same s3,(s3.at hd).seq sq2,mr',lr',fun b3 H4 hb3 s4=>?_⟩)
  refine ex1 rfl ⟨_,_,rfl,?_⟩
  rw[V0 hb3 hb2]
  refine⟨_,rfl,S6 ?_⟩
  have s4:=s3.trans s4
  refine hN3 _ _ (C2 fun N4 hN4=>?_)
  refine ex1 rfl (ex1 rfl ⟨x,hd,rs',ns2,qs,rfl,W2.same s4,(s4.at hd).seq sq2,mr',lr',fun b5 H5 hb5 s5=>?_⟩)
  have s5:=s4.trans s5
  refine zAa (b1:=b1) (b2:=b2) (fun R h=>ex1 rfl h) (fun R h=>ex1 rfl h) ?_
  refine⟨_,_,rfl,?_⟩
  rw[V0 hb5 (by rw[Bool.and_eq_true,hb1,hb2];exact Iff.rfl)]
  refine⟨_,rfl,S6 ?_⟩
  refine ex1 rfl (ex1 rfl ⟨x,hd,rs',ns2,qs,rfl,W2.same s5,(s5.at hd).seq sq2,mr',lr',fun l f H6 hl s6 hf e6=>?_⟩)
  have s6:=s5.trans s6
  have ef:ns2.filter f=Y0 ns2 ps rs:=List.filter_congr fun y hy=>by
   rw[Bool.eq_iff_iff,hf y hy,<-Ft pq pr,<-kept_open,Bool.not_eq_true',decide_eq_false_iff_not]
  rw[ef]at e6
  have mk:∀y∈Y0 ns2 ps rs,y∈ns2:=fun y hy=>(List.mem_filter.mp hy).1
  have lk:(Y0 ns2 ps rs).length<=100:=Nat.le_trans (List.length_filter_le ..) lns
  refine ex1 rfl (.inr ⟨l,k,true,_,_,fun _=>true,rfl,e6,s6 _ _ ek2,rfl,by rw[List.length_map];omega,fun i x y H' Q' E' hx hy s hq=>Wt (H:=H6) hx hy (fun y hy=>O1 (nm y (mk y hy))) hq,fun H7 s7=>?_⟩)
  rw[Pp]
  have s7:=s6.trans s7
  refine⟨_,rfl,S6 ?_⟩
  refine hN4 _ _ (C2 fun N5 hN5=>?_)
  have hwh:=Kg pq pr sub okw.srt okw.nd hb1 hb2
  refine zAa (b1:=b1) (b2:=b2&&decide (Y0 ns2 ps rs=rs)) (fun R h=>ex1 rfl h) (fun R h=>zAa (b1:=b2) (b2:=decide (Y0 ns2 ps rs=rs)) (fun R h=>ex1 rfl h) (fun R h=>ex1 rfl (ex1 rfl ⟨_,_,V2 (SqL.of (s7 _ _ ek2)),V2 (SqL.of (s7 _ _ es2)),Y6 fun y hy=>nm y (mk y hy),Y6 fun y hy=>nm y (mr y hy),by rw[Ot];exact h⟩)) h) ?_
  generalize (b1 &&(b2&&decide (Y0 ns2 ps rs=rs)))=bw at hwh
  refine hN5 _ _ (C2 fun N6 hN6=>?_)
  have hfl:=Nf (b1:=b1) pq pr pn hb1
  have nd':rs'.Nodup:=pr.nodup_iff.mpr (sub.nodup okw.nd)
  have fin:∀G,Same H2 G->Q (.bl true) G:=fun G sG=>q G (s1.sm.trans (k2.trans sG.sm)) (L2.same sG)
  have rest:∀(bf:Bool) G,Same H2 G->(bf=true↔Q6 ns2 qs rs')->N6 [some (.ref p),some (.ref x),some (.ref n),some (.ref a),some (.ref s0),some (.bl b1),some (.bl b2),some (.ref k),some (.ref h),some (.ref hd),some (.bl bw),some (.bl bf)] G:=by
   intro bf G sG hbf
   refine hN6 _ _ (C2 fun N7 hN7=>?_)
   refine ex1 rfl (ex1 rfl ⟨x,hd,rs',ns2,qs,rfl,W2.same sG,(sG.at hd).seq sq2,mr',lr',nd',nm,fun b8 H8 hb8 s8=>?_⟩)
   have s8:=sG.trans s8
   refine ex1 rfl ⟨_,_,rfl,?_⟩
   rw[V0 hb8 hwh]
   refine⟨_,rfl,S6 ?_⟩
   refine ex1 rfl (ex1 rfl ⟨x,hd,rs',ns2,qs,rfl,W2.same s8,(s8.at hd).seq sq2,mr',lr',fun b9 H9 hb9 s9=>?_⟩)
   have s9:=s8.trans s9
   refine ex1 rfl ⟨_,_,rfl,?_⟩
   rw[V0 hb9 hbf]
   refine⟨_,rfl,S6 ?_⟩
   refine hN7 _ _ (C2 fun N8 hN8=>?_)
   have rest2:∀G,Same H2 G->N8 [some (.ref p),some (.ref x),some (.ref n),some (.ref a),some (.ref s0),some (.bl b1),some (.bl b2),some (.ref k),some (.ref h),some (.ref hd),some (.bl bw),some (.bl bf)] G:=by
    intro G sG
    refine hN8 _ _ ?_
    refine ex1 rfl ⟨b1,rfl,!b1,rfl,R1 (fun c=>fin G sG) (fun c=>?_)⟩
    have qu:=hb1.mp (by cases b1<;>simp_all)
    refine ex1 rfl (ex1 rfl (ex1 rfl ⟨x,hd,rs',ns2,qs,rfl,W2.same sG,(sG.at hd).seq sq2,mr',fun l hs G1 hl s10 hh hWL=>?_⟩))
    have s10:=sG.trans s10
    obtain⟨ps',_,hWS,ek'⟩:=Wk hWL nm lns
    refine⟨x,l,ns2,qs,ps',rfl,W2.same s10,nm,hWS,fun G2 s11=>?_⟩
    rw[ek']
    refine ex1 rfl ⟨_,_,rfl,?_⟩
    rw[V0 (Y5 okw.nd okw.mem mr' hh qu) hwh]
    exact fin G2 (s10.trans s11)
   refine orF (fun R h=>?_) ?_
   ·refine ex1 rfl ⟨bf,rfl,R1 (fun c=>ex1 rfl ⟨bw,rfl,?_⟩) (fun c=>h)⟩
    rw[hwh.mpr (Ou okw.mem (hbf.mp c))]
    exact h
   ·refine ex1 rfl ⟨b1,rfl,R1 (fun c1=>?_) (fun c1=>S6 (rest2 _ s9))⟩
    refine ex1 rfl ⟨b2,rfl,R1 (fun c2=>?_) (fun c2=>S6 (rest2 _ s9))⟩
    have es9:=s9 _ _ es2
    refine ex1 rfl ⟨s0,rfl,⟨_,SqL.of es9⟩,fun D hD=>?_⟩
    refine Hv V.str (asL (SqL.of es9)) (fun y=>!decide (y∈Y0 ns2 ps rs)) (by omega) hD (fun y hy G sG M hM=>ex1 rfl (ex1 rfl (O8 (.inl (SqL.of (sG _ _ (s9 _ _ ek2)))) ⟨_,rfl,hM G fun b o e=>e⟩))) (fun y hy G sG M hM=>ex1 rfl hM) fun σ' G1 s10 e10=>?_
    have e:rs.filter (fun y=>!decide (y∈Y0 ns2 ps rs)) = []:=List.filter_eq_nil_iff.mpr fun y hy z=>by
     have ky:Du ps rs y:=(Ft pq pr y).mpr fun x e=>hb2.mp c2 x y (pr.mem_iff.mpr hy) e
     have:y∈Y0 ns2 ps rs:=List.mem_filter.mpr ⟨mr y hy,by rw[decide_eq_false (kept_open.mpr ky)];rfl⟩
     rw[decide_eq_true this]at z
     exact absurd z (by decide)
    rw[e]at e10
    refine⟨Nat.zero_le _,fun z hz=>?_⟩
    have uz:=Same.new (o:=.lst []) hz
    exact Sv (V2 (ss:=[]) (SqL.of (uz _ _ e10))) (V2 (ss:=[]) (SqL.of A9)) (Y6 fun y hy=>absurd hy List.not_mem_nil) ⟨_,rfl,S6 (rest2 _ ((s9.trans s10).trans uz))⟩
  refine ex1 rfl ⟨b1,rfl,R1 (fun c=>?_) (fun c=>?_)⟩
  ·have n7:=s7 _ _ n2
   refine ex1 rfl ⟨n,rfl,⟨_,SqL.of n7⟩,fun D hD=>?_⟩
   refine Hv (fun y=>V.bl (decide (y∈rs)||decide (y∈Ke ps rs))) (asL (SqL.of n7)) (fun _=>true) (by rw[<-pn.length_eq];omega) hD (fun y hy G sG M hM=>hM G fun b o e=>e) (fun y hy G sG M hM=>?_) fun σ' G1 s10 e10=>?_
   ·refine ex1 rfl (ex1 rfl (I0 (.inl (SqL.of (sG _ _ (s7 _ _ es2)))) ⟨_,rfl,R1 (fun c=>?_) (fun c=>?_)⟩))
    ·rw[c]at hM;exact hM
    ·rw[Bool.eq_false_iff.mpr c]at hM
     exact ex1 rfl (ex1 rfl (I0 (.inl (SqL.of (sG _ _ (s7 _ _ eh3)))) hM))
   rw[List.filter_eq_self.mpr fun _ _=>rfl]at e10
   have e10:G1 D=some (.lst ((ss.map fun y=>decide (y∈rs)||decide (y∈Ke ps rs)).map V.bl)):=by rw[e10,List.map_map];rfl
   refine⟨D,_,rfl,SqL.of e10,rest _ _ (s7.trans s10) ?_⟩
   rw[c,Bool.true_and]at hfl
   exact hfl
  ·refine rest false _ s7 ?_
   rw[Bool.eq_false_iff.mpr c,Bool.false_and]at hfl
   exact hfl
end
theorem Yw(z:Nat):∃y∈W3,atI [V.str "in",.str "out",.str "open"] ((z:Int) % 3)=some (.str y):=by
 rw[show(z:Int) % 3 =((z % 3:Nat):Int) by omega]
 have:z % 3<3:=Nat.mod_lt _ (by decide)
 match z % 3,this with
 | 0,_=>exact⟨"in",by decide,rfl⟩
 | 1,_=>exact⟨"out",by decide,rfl⟩
 | 2,_=>exact⟨"open",by decide,rfl⟩
noncomputable def g2(a b:Str×Str)(j:Nat):Bool:=if j=0 then decide (a.1=b.1)else decide (a.2=b.2)
theorem Vj(a b:Str×Str):((List.range 2).map (g2 a b)).all id=decide (a=b):=by
 have e:((List.range 2).map (g2 a b)) = [decide (a.1=b.1),decide (a.2=b.2)]:=rfl
 rw[e]
 by_cases h1:a.1=b.1
 ·by_cases h2:a.2=b.2
  ·simp[Prod.ext h1 h2]
  ·rw[decide_eq_false fun z=>h2 (congrArg Prod.snd z)];simp[h2]
 ·rw[decide_eq_false fun z=>h1 (congrArg Prod.fst z)];simp[h1]
noncomputable def gP(as bs:List (Str×Str))(i:Nat):Bool:=decide (as[i]?=bs[i]?)
theorem Xf{as bs:List (Str×Str)}{n:Nat}(ha:as.length=n)(hb:bs.length=n):((List.range n).map (gP as bs)).all id=true↔as=bs:=by
 rw[List.all_eq_true]
 constructor
 ·intro h
  refine List.ext_getElem? fun i=>?_
  by_cases c:i<n
  ·exact of_decide_eq_true (h _ (List.mem_map.mpr ⟨i,List.mem_range.mpr c,rfl⟩))
  ·rw[List.getElem?_eq_none (by omega),List.getElem?_eq_none (by omega)]
 ·rintro rfl b hb
  obtain⟨i,_,rfl⟩:=List.mem_map.mp hb
  exact decide_eq_true rfl
theorem Ty{H H':Hp}{ps qs:List PA2}{i:Nat}{x y:V}{S:Sp}{Q:VK}{E:XK}(hx:(E8 ps)[i]?=some x)(hy:(E8 qs)[i]?=some y)(hp:∀q∈ps,D0 H' q)(hq:∀q∈qs,D0 H' q)(op:∀q∈ps,PySem.PyData.strOk q.2.1=true/\PySem.PyData.strOk q.2.2=true)(oq:∀q∈qs,PySem.PyData.strOk q.2.1=true/\PySem.PyData.strOk q.2.2=true)
  (q:∀H'',Same H' H''->Q (.bl (gP (ps.map fun q=>q.2) (qs.map fun q=>q.2) i)) H''):P4 (P4 S) [x,y] H' Q E:=by
 unfold E8 at hx hy
 rw[List.getElem?_map]at hx hy
 obtain⟨a,ha,rfl⟩:=Option.map_eq_some_iff.mp hx
 obtain⟨b,hb,rfl⟩:=Option.map_eq_some_iff.mp hy
 have ma:=List.mem_of_getElem? ha
 have mb:=List.mem_of_getElem? hb
 refine .inr ⟨a.1,b.1,false,[.str a.2.1,.str a.2.2],[.str b.2.1,.str b.2.2],g2 a.2 b.2,rfl,hp a ma,hq b mb,rfl,Nat.le_of_ble_eq_true rfl,fun j x y H2 Q2 E2 hx hy s hq2=>?_,fun H2 s=>?_⟩
 ·match j,hx,hy with
  | 0,hx,hy=>cases hx;cases hy;exact .inl ⟨_,_,rfl,(op a ma).1,(oq b mb).1,hq2⟩
  | 1,hx,hy=>cases hx;cases hy;exact .inl ⟨_,_,rfl,(op a ma).2,(oq b mb).2,hq2⟩
 ·have:=q H2 s
  unfold gP at this
  rw[List.getElem?_map,List.getElem?_map,ha,hb]at this
  have e:decide (Option.map (fun q:PA2=>q.2) (some a)=Option.map (fun q:PA2=>q.2) (some b))=decide (a.2=b.2):=decide_eq_decide.mpr ⟨fun z=>Option.some.inj z,fun z=>congrArg some z⟩
  rw[e]at this
  rw[show([V.str a.2.1,.str a.2.2]:List V).length=2 from rfl,Vj]
  exact this
section
variable{P:Program}{w:World}{K:PySem.W.Frag}{mg:Str->Option Value}{base:Heap}
theorem Za{J:It}{a D:Addr}{ps:List PA2}{H:Hp}{Q:St->Hp->Prop}(as:AsSeq J (E8 ps) a H)(hp:∀q∈ps,D0 H q)(len:ps.length<=200)(hD:H D=none)
  (q:∀σ G,Same H G->G D=some (.lst ((((ps.map fun q=>q.2).filter fun k=>decide (k.2 =("in":Str))).map fun k=>k.1).map V.str))->Q σ G) :
  Aq (Vr K 2 (Gp (K7 0) (Gp (K7 1) Yo))) (Uw (tOp rEq (Hc 1) (tC (.str "in")))) (Df D (Hc 0)) J [none,none] (upd H D (.lst [])) Q:=by
 refine J4 as (fun i σ G=>(∃v0 v1,σ = [v0,v1])/\Same H G/\G D=some (.lst (((ps.take i).filter fun r=>decide (r.2.2 =("in":Str))).map fun r=>V.str r.2.1))) ⟨⟨_,_,rfl⟩,Same.new hD,A9⟩ (fun i σ G _ h=>h.2.1.at a) ?_ ?_
 ·rintro i σ G v N hv ⟨⟨v0,v1,rfl⟩,sG,eG⟩ hN
  unfold E8 at hv
  rw[List.getElem?_map]at hv
  obtain⟨r,hr,rfl⟩:=Option.map_eq_some_iff.mp hv
  refine⟨r.1,_,rfl,SqT.of (sG _ _ (hp r (List.mem_of_getElem? hr))),rfl,⟨_,_,rfl,⟨_,_,rfl,⟨rfl,?_⟩⟩⟩⟩
  refine ex1 rfl ⟨rfl,_,rfl,?_⟩
  have hs:(ps.take (i+1)).filter (fun r=>decide (r.2.2 =("in":Str))) =(ps.take i).filter (fun r=>decide (r.2.2 =("in":Str)))++if decide (r.2.2 =("in":Str))=true then [r]else []:=by
   rw[C1 hr,List.filter_append,List.filter_cons,List.filter_nil]
  have hl:=List.length_filter_le (fun r:PA2=>decide (r.2.2 =("in":Str))) (ps.take i)
  rw[List.length_take]at hl
  rw[Z7]
  refine R1 (fun c=>ex1 rfl ⟨_,eG,by rw[List.length_map,sizeLine_eq];omega,hN _ _ ⟨⟨_,_,rfl⟩,sG.upd hD,?_⟩⟩) (fun c=>hN _ _ ⟨⟨_,_,rfl⟩,sG,?_⟩)
  ·rw[A9,hs,if_pos c,List.map_append];rfl
  ·rw[hs,if_neg c,List.append_nil];exact eG
 ·rintro σ G ⟨_,sG,eG⟩
  unfold E8 at eG
  rw[List.length_map,List.take_length]at eG
  refine q σ G sG ?_
  rw[eG,List.filter_map,List.map_map,List.map_map]
  rfl
theorem N0:FnScope ["_law_web", "_law_names_here", "_law_number", "_law_words", "_law_name", "_law_some_here", "_law_due"] ["_law_web", "_law_names_here", "_law_number"] (B7 s_law_words_right):=⟨rfl,rfl,rfl,by decide +kernel,rfl,by decide +kernel,by decide +kernel⟩
noncomputable def S7(C:Addr):Sp:=fun vs H Q _=>∃(x n:Addr) (z:Nat) (ss ns:List Str) (qs:List PA2),vs = [.ref x,.ref n,.int (z:Int)]/\WebAt C H x ns qs/\H n=some (.lst (ss.map V.str))/\ns.Perm ss/\(∀y∈ns,I9 y=true)/\∀H',Same H H'->Q (.bl true) H'
set_option maxHeartbeats 4000000 in
theorem X4(T:Tx K mg):FnOk P w K mg base CX0 7 T.law_words_right.f T.law_words_right.fd ["_law_web", "_law_names_here", "_law_number"] (S7 T.CWeb):=by
 have G_law_says:FnOk P w K mg base CX0 1 T.law_says.f T.law_says.fd ["_law_found", "_law_due"] Hf:=w9 T
 have G_is_whole:FnOk P w K mg base CX0 6 T.is_whole.f T.is_whole.fd ["web", "some"] (y4 K T.CWeb Ao):=Ab T
 have G_words_by:FnOk P w K mg base CX0 4 T.words_by.f T.words_by.fd ["web", "some"] (U1 K T.CWeb):=r6 T
 have G_is_telling:FnOk P w K mg base CX0 4 T.is_telling.f T.is_telling.fd ["web", "words"] (P1 T.CWeb):=X6 T
 have G_law_same:FnOk P w K mg base CX0 3 T.law_same.f T.law_same.fd ["_law_found", "_law_due"] (P4 (P4 (P4 Gf))):=K4 T (K4 T (K4 T La))
 have sc:=N0
 refine T.law_words_right.F.ok N0 (fun vs H Q E h=>?_) (fun cdv A outer s H vs Q E hr h=>?_)
 ·obtain⟨x,n,z,ss,ns,qs,rfl,_⟩:=h
  rfl
 ·obtain⟨x,n,z,ss,ns,qs,rfl,hW,en,pn,nm,q⟩:=h
  have okw:=hW.ok
  have lns:=okw.len
  refine⟨_,(B2 (C6 (i:=3) sc.nd rfl (by first | exact Or.inl rfl | exact Or.inr rfl) (J1 B0))
   (@B2 _ _ _ _ _ (M9 PassesOwn.never rfl (piL K (D6 (p9 K) T.b_sorted K3 (A8 (pv 1) B0))) (E1 (i:=4) sc.nd rfl (by first | exact Or.inl rfl | exact Or.inr rfl))
   (@B2 _ _ _ _ _ (G6 (Jh K PySem.F.plainAttrs_list PySem.F.slot_list_append PySem.F.type_list_append G8 (pv 3) (@A8 _ _ _ _ _ (@O2 _ _ _ _ _ (@A8 _ _ _ _ _ (pv 4) (@A8 _ _ _ _ _ (@G9 _ _ _ _ _ _ _ (ixL K) (@J1 _ _ _ _ (@A8 _ _ _ _ _ O7 (@A8 _ _ _ _ _ O7 (@A8 _ _ _ _ _ O7 B0 (by rfl)) (by rfl)) (by rfl))) (E4 Bk (pv 2) B5) (fun _ _=>rfl)) B0 (by rfl)) (by rfl))) B0 (by rfl))))
   (B3 (C6 (i:=2) sc.nd rfl (by first | exact Or.inl rfl | exact Or.inr rfl) (E4 Hl (pv 2) B5)))))
   (B2 (o9 (i:=5) (N':=["_law_name", "_law_word"]) (cap:=[none,none]) (cl:=[]) sc.nd rfl (by first | exact Or.inl rfl | exact Or.inr rfl) (K2 trivial trivial) rfl (piL K (pv 3)) (fun _ _ _ _=>by exact⟨(pgT K (n:=2) (C7 (pgC 0) (C7 (pgC 1) M6))),(P2 (C4 Q3 (pv 1) O7 (E3 _))),(pv 0)⟩))
   (B2 (C6 (i:=6) sc.nd rfl (by first | exact Or.inl rfl | exact Or.inr rfl) (K6 (C5 T.is_whole G_is_whole (hr.mono (by decide)) (A8 (pv 0) (A8 (pv 5) B0))) (K1 (C5 T.law_same G_law_same (hr.mono (by decide)) (A8 (C5 T.words_by G_words_by (hr.mono (by decide)) (A8 (pv 0) (A8 (pv 5) B0))) (A8 (pv 3) B0))))))
   (B3 (C0 (C5 T.law_says G_law_says (hr.mono (by decide)) (A8 (C5 T.is_telling G_is_telling (hr.mono (by decide)) (A8 (pv 0) (A8 (pv 3) B0))) (A8 (pv 6) B0))))))))),?_⟩
  refine C2 fun N1 hN1=>?_
  refine⟨Nat.zero_le _,fun l hl=>?_⟩
  have u0:=Same.new (o:=.lst []) hl
  have f0:(upd H l (.lst [])) l=some (.lst (E8 [])):=A9
  generalize upd H l (.lst [])=H0 at u0 f0⊢
  refine hN1 _ _ (C2 fun N2 hN2=>?_)
  refine ex1 rfl ⟨n,ss,rfl,SqL.of (u0 _ _ en),fun a ns2 ha pm srt=>?_⟩
  have e2:ns2=ns:=O5 srt okw.srt (pm.trans pn.symm)
  subst e2
  have ua:=Same.new (o:=.lst (ns2.map V.str)) ha
  have fa:(upd H0 a (.lst (ns2.map V.str))) a=some (.lst (ns2.map V.str)):=A9
  have la:l≠a:=B1 f0 ha
  generalize upd H0 a (.lst (ns2.map V.str))=H1 at ua fa⊢
  refine⟨a,rfl,⟨_,SqL.of fa⟩,?_⟩
  refine U2 (asL (K:=K) (SqL.of fa)) (fun i σ G=>(∃(z:Nat) (v4 v5 v6:Option V),σ = [some (.ref x),some (.ref n),some (.int (z:Int)),some (.ref l),v4,v5,v6])/\Same H G/\G a=some (.lst (ns2.map V.str))/\∃ps:List PA2,G l=some (.lst (E8 ps))/\(∀q∈ps,D0 G q)/\(ps.map fun q=>q.2.1)=ns2.take i/\∀q∈ps,q.2.2∈W3) ⟨⟨_,_,_,_,rfl⟩,u0.trans ua,fa,[],ua _ _ f0,fun q h=>absurd h List.not_mem_nil,rfl,fun q h=>absurd h List.not_mem_nil⟩ (fun i σ G _ h o e=>by rw[fa]at e;cases e;exact h.2.2.1) ?_ ?_
  ·rintro i σ G y hx ⟨⟨z,v4,v5,v6,rfl⟩,sG,aG,ps,eG,pG,kG,wG⟩ D' hD' _
   rw[List.getElem?_map]at hx
   obtain⟨nme,hn,rfl⟩:=Option.map_eq_some_iff.mp hx
   have li:=(List.getElem?_eq_some_iff.mp hn).1
   have lp:ps.length=i:=by
    have:=congrArg List.length kG
    rw[List.length_map,List.length_take]at this
    omega
   refine Ya fun M1 hM1=>?_
   refine ex1 rfl ⟨.inl ⟨rfl,_,SqL.of eG⟩,?_⟩
   refine ex1 rfl ⟨by show 3<=sizeLine;decide,fun u hu=>?_⟩
   have uu:=Same.new (o:=.lst [.str "in",.str "out",.str "open"]) hu
   have fu:(upd G u (.lst [.str "in",.str "out",.str "open"])) u=some (.lst [.str "in",.str "out",.str "open"]):=A9
   generalize upd G u (.lst [.str "in",.str "out",.str "open"])=G1 at uu fu⊢
   obtain⟨y,hy,ey⟩:=Yw z
   refine ex1 rfl (B8 rfl rfl ⟨(show(0:Int)<3 by decide),u,_,B8 rfl rfl ⟨SqL.of fu,ey,?_⟩⟩)
   refine⟨by show 2<=sizeLine;decide,fun t ht=>?_⟩
   have ut:=Same.new (o:=.tup [.str nme,.str y]) ht
   have ft:(upd G1 t (.tup [.str nme,.str y])) t=some (.tup [.str nme,.str y]):=A9
   generalize upd G1 t (.tup [.str nme,.str y])=G2 at ut ft⊢
   have s2:=uu.trans ut
   have e2:=s2 _ _ eG
   refine⟨l,B8 rfl rfl ⟨e2,by unfold E8;rw[List.length_map,sizeLine_eq];omega,?_⟩⟩
   have tl:∀{b:Addr} {xs:List V},G2 b=some (.tup xs)->(upd G2 l (.lst (E8 ps ++ [.ref t]))) b=some (.tup xs):=fun e=>(B6 (T9 e e2 (by intro z;cases z))).trans e
   have s3:=(sG.trans s2).upd (o:=.lst (E8 ps ++ [.ref t])) hl
   refine hM1 _ _ ?_
   refine ex1 rfl (B8 rfl rfl ⟨⟨by decide,by decide⟩,?_⟩)
   dsimp only
   rw[show(z:Int) / 3 =((z / 3:Nat):Int) by omega]
   refine hD' _ _ ⟨⟨_,_,_,_,rfl⟩,s3,(B6 la.symm).trans (s2 _ _ aG),ps ++ [(t,(nme,y))],?_,fun q hq=>?_,?_,fun q hq=>(List.mem_append.mp hq).elim (wG q) fun h=>by rw[List.mem_singleton.mp h];exact hy⟩
   ·rw[A9];unfold E8;rw[List.map_append];rfl
   ·rcases List.mem_append.mp hq with h | h
    ·exact tl (s2 _ _ (pG q h))
    ·rw[List.mem_singleton.mp h];exact tl ft
   ·rw[List.map_append,kG,C1 hn];rfl
  ·rintro σ G ⟨⟨z,v4,v5,v6,rfl⟩,sG,aG,ps,eG,pG,kG,wG⟩
   rw[List.length_map,List.take_length]at kG
   have lp:ps.length=ns2.length:=by rw[<-kG,List.length_map]
   have okp:∀q∈ps,PySem.PyData.strOk q.2.1=true/\PySem.PyData.strOk q.2.2=true:=fun q hq=>⟨O1 (nm _ (kG▸List.mem_map.mpr ⟨q,hq,rfl⟩)),Ud _ (wG q hq)⟩
   have hkm:((ps.map fun q=>q.2).map fun k=>k.1)=ns2:=by rw[List.map_map];exact kG
   have hk3:∀k∈ps.map (fun q=>q.2),k.2∈W3:=fun k hk=>by
    obtain⟨q,hq,rfl⟩:=List.mem_map.mp hk
    exact wG q hq
   refine hN2 _ _ (C2 fun N3 hN3=>?_)
   refine ex1 rfl ⟨l,rfl,⟨_,SqL.of eG⟩,fun D hD=>?_⟩
   refine Za (asL (SqL.of eG)) pG (by omega) hD fun σ' G1 s1 e1=>?_
   have W1:=(hW.same sG).same s1
   have l1:=s1 _ _ eG
   have p1:=E6 s1 pG
   have s1:=sG.trans s1
   generalize hks:ps.map (fun q=>q.2)=ks at hkm hk3 e1
   generalize hss:(ks.filter fun k=>decide (k.2 =("in":Str))).map (fun k=>k.1)=rs at e1
   have hsub:rs.Sublist ns2:=by rw[<-hss,<-hkm];exact List.filter_sublist.map _
   refine hN3 _ _ (C2 fun N4 hN4=>?_)
   have mr:∀y∈rs,y∈ns2:=fun y hy=>hsub.mem hy
   have rest:∀(bd:Bool) G2 v4,Same G1 G2->(bd=true↔Gh ns2 qs ks=true)->N4 [some (.ref x),some (.ref n),some (.int (z:Int)),some (.ref l),v4,some (.ref D),some (.bl bd)] G2:=by
    intro bd G2 v4 s2 hbd
    refine hN4 _ _ ?_
    refine ex1 rfl (ex1 rfl ⟨x,l,ns2,qs,ps,rfl,W1.same s2,nm,⟨.inl (s2 _ _ l1),E6 s2 p1,okp,by omega⟩,fun G3 s3=>?_⟩)
    refine ex1 rfl ⟨_,_,rfl,?_⟩
    rw[hks,V0 Iff.rfl hbd]
    exact q _ (s1.trans (s2.trans s3))
   refine ex1 rfl (ex1 rfl ⟨x,D,rs,ns2,qs,rfl,W1,.inl (SqL.of e1),mr,Nat.le_trans hsub.length_le lns,hsub.nodup okw.nd,nm,fun b2 G2 hb2 s2=>⟨b2,rfl,R1 (fun c=>?_) (fun c=>?_)⟩⟩)
   ·refine ex1 rfl (ex1 rfl ⟨x,D,rs,ns2,qs,rfl,W1.same s2,.inl (SqL.of (s2 _ _ e1)),mr,fun l2 hs G3 hl2 s3 hh hWL=>?_⟩)
    have s3:=s2.trans s3
    obtain⟨ps1,el1,hWS,ek1⟩:=Wk hWL nm lns
    have lp1:ps1.length=ns2.length:=by have:=congrArg List.length ek1;rw[List.length_map,List.length_map]at this;exact this
    refine ex1 rfl (.inr ⟨l2,l,true,_,_,gP (ps1.map fun q=>q.2) (ps.map fun q=>q.2),rfl,el1,s3 _ _ l1,by unfold E8;rw[List.length_map,List.length_map];omega,by unfold E8;rw[List.length_map];omega,fun i x y H' Q' E' hx hy s hq=>Ty (H:=G3) hx hy (E6 s hWS.pin) (E6 (s3.trans s) p1) hWS.ok okp hq,fun G4 s4=>?_⟩)
    refine rest _ _ _ (s3.trans s4) ?_
    rw[Xf (by unfold E8;rw[List.length_map,List.length_map]) (by unfold E8;rw[List.length_map,List.length_map];omega),ek1,hks,Ld okw.nd okw.mem hkm hk3 hss.symm hh]
    exact⟨fun h=>⟨hb2.mp c,h⟩,fun h=>h.2⟩
   ·refine rest false _ _ s2 ?_
    have hh:∀y,y∈(rs.flatMap fun n=>C3 qs n)↔∃n∈rs,y∈C3 qs n:=fun y=>List.mem_flatMap
    rw[Ld okw.nd okw.mem hkm hk3 hss.symm hh]
    exact⟨fun h=>(by cases h),fun h=>absurd (hb2.mpr h.1) c⟩
end
theorem zBm(l:Nat):(if((l:Nat):Int)<7 then((l:Nat):Int)else 7) =((min 7 l:Nat):Int):=by
 by_cases h:l<7
 ·rw[if_pos (by omega),Nat.min_eq_right (by omega)]
 ·rw[if_neg (by omega),Nat.min_eq_left (by omega)];rfl
theorem Zs{l:Nat}(h:l<=10):∃z:Nat,z<=81/\atI [V.int 1,.int 3,.int 9,.int 27,.int 81,.int 0,.int 0,.int 0,.int 0,.int 0,.int 0] (l:Int)=some (.int (z:Int)):=by
 match l,h with
 | 0,_=>exact⟨1,by decide,rfl⟩
 | 1,_=>exact⟨3,by decide,rfl⟩
 | 2,_=>exact⟨9,by decide,rfl⟩
 | 3,_=>exact⟨27,by decide,rfl⟩
 | 4,_=>exact⟨81,by decide,rfl⟩
 | 5,_=>exact⟨0,by decide,rfl⟩
 | 6,_=>exact⟨0,by decide,rfl⟩
 | 7,_=>exact⟨0,by decide,rfl⟩
 | 8,_=>exact⟨0,by decide,rfl⟩
 | 9,_=>exact⟨0,by decide,rfl⟩
 | 10,_=>exact⟨0,by decide,rfl⟩
section
variable{P:Program}{w:World}{K:PySem.W.Frag}{mg:Str->Option Value}{base:Heap}
theorem Rh:FnScope ["_law_script", "_law_k", "_law_left_here", "_law_names_here", "_law_strikes_here", "_law_web", "_law_view", "_law_masks_here", "_law_mask", "_law_number"] ["_law_script"] (B7 s_law):=⟨rfl,rfl,rfl,by decide +kernel,rfl,by decide +kernel,by decide +kernel⟩
noncomputable def Il(K:PySem.W.Frag):Sp:=fun vs H Q _=>∃(u:Addr) (xs:List Int),vs = [.ref u]/\SqL K H u (xs.map V.int)/\xs.length<=63/\∀H',Q (.bl true) H'
set_option maxHeartbeats 4000000 in
theorem Vn(T:Tx K mg){f:Addr}{fd:FuncData}(F:Fun K "law" "law" s_law f fd):FnOk P w K mg base CX0 8 f fd ["_law_script"] (Il K):=by
 have G_law_left:FnOk P w K mg base CX0 1 T.law_left.f T.law_left.fd ["_law_script", "_law_k"] (Ox K):=Hi T
 have G_law_names:FnOk P w K mg base CX0 3 T.law_names.f T.law_names.fd ["_law_left_here", "_law_many"] Je:=Fc T
 have G_law_size:FnOk P w K mg base CX0 3 T.law_size.f T.law_size.fd ["_law_left_here"] Nv:=He T
 have G_law_strikes:FnOk P w K mg base CX0 3 T.law_strikes.f T.law_strikes.fd ["_law_left_here", "_law_names_here"] (Bl K):=Ay T
 have G_law_masks:FnOk P w K mg base CX0 1 T.law_masks.f T.law_masks.fd ["_law_names_here", "_law_strikes_here"] Ir:=Er T
 have G_law_some:FnOk P w K mg base CX0 3 T.law_some.f T.law_some.fd ["_law_left_here", "_law_view"] Od:=Ha T
 have G_law_set_of:FnOk P w K mg base CX0 1 T.law_set_of.f T.law_set_of.fd ["_law_view", "_law_mask"] Fh:=Ci T
 have G_law_set_right:FnOk P w K mg base CX0 7 T.law_set_right.f T.law_set_right.fd ["_law_left_here", "_law_web", "_law_names_here", "_law_strikes_here", "_law_some_here"] (i5 T.CWeb):=l8 T
 have G_law_words_right:FnOk P w K mg base CX0 7 T.law_words_right.f T.law_words_right.fd ["_law_web", "_law_names_here", "_law_number"] (S7 T.CWeb):=X4 T
 have G_Web___init__:FnOk P w K mg base CX0 3 T.fWeb___init__ T.fdWeb___init__ ["self", "names", "strikes"] (w5 K T.CWeb):=Ib T
 have sc:=Rh
 refine F.ok Rh (fun vs H Q E h=>?_) (fun cdv A outer s H vs Q E hr h=>?_)
 ·obtain⟨u,xs,rfl,_⟩:=h
  rfl
 ·obtain⟨u,xs,rfl,hS,hlen,q⟩:=h
  refine⟨_,(@B2 _ _ _ _ _ (M9 PassesOwn.never rfl (Sz T.b_range (A8 (D6 (Mu rfl) T.b_max Yd (@A8 _ _ _ _ _ B5 (@A8 _ _ _ _ _ (D6 (Dz rfl) T.b_min Sa (@A8 _ _ _ _ _ (D6 (J9 K) T.b_len J3 (A8 (pv 0) B0)) (@A8 _ _ _ _ _ B5 B0 (by rfl)) (by rfl))) B0 (by rfl)) (by rfl))) B0)) (E1 (i:=1) sc.nd rfl (by first | exact Or.inl rfl | exact Or.inr rfl))
   (B2 (C6 (i:=2) sc.nd rfl (by first | exact Or.inl rfl | exact Or.inr rfl) (C5 T.law_left G_law_left (hr.mono (by decide)) (@A8 _ _ _ _ _ (pv 0) (@A8 _ _ _ _ _ (pv 1) B0 (by rfl)) (by rfl))))
   (B2 (C6 (i:=3) sc.nd rfl (by first | exact Or.inl rfl | exact Or.inr rfl) (C5 T.law_names G_law_names (hr.mono (by decide)) (@A8 _ _ _ _ _ (pv 2) (@A8 _ _ _ _ _ (C5 T.law_size G_law_size (hr.mono (by decide)) (A8 (pv 2) B0)) B0 (by rfl)) (by rfl))))
   (B2 (C6 (i:=4) sc.nd rfl (by first | exact Or.inl rfl | exact Or.inr rfl) (C5 T.law_strikes G_law_strikes (hr.mono (by decide)) (@A8 _ _ _ _ _ (pv 2) (@A8 _ _ _ _ _ (pv 3) B0 (by rfl)) (by rfl))))
   (B2 (C6 (i:=5) sc.nd rfl (by first | exact Or.inl rfl | exact Or.inr rfl) (Te T.mkWeb G_Web___init__ (hr.mono (by decide)) rfl T.mgWeb T.bWeb___init__ .nil Y7 (@A8 _ _ _ _ _ (pv 3) (@A8 _ _ _ _ _ (pv 4) B0 (by rfl)) (by rfl))))
   (B2 (C6 (i:=6) sc.nd rfl (by first | exact Or.inl rfl | exact Or.inr rfl) (C5 T.law_masks G_law_masks (hr.mono (by decide)) (@A8 _ _ _ _ _ (pv 3) (@A8 _ _ _ _ _ (pv 4) B0 (by rfl)) (by rfl))))
   (B2 (C6 (i:=7) sc.nd rfl (by first | exact Or.inl rfl | exact Or.inr rfl) (Hm Ki T.b_list U3 (A8 (Hm Gn T.b_range Qs (A8 (E4 y0 B5 (D6 (Dz rfl) T.b_min Sa (@A8 _ _ _ _ _ B5 (@A8 _ _ _ _ _ (D6 (J9 K) T.b_len J3 (A8 (pv 3) B0)) B0 (by rfl)) (by rfl)))) B0)) B0)))
   (B2 (J8 (C4 Yh (D6 (J9 K) T.b_len J3 (A8 (pv 3) B0)) B5 (E3 _)) (B3 (C6 (i:=7) sc.nd rfl (by first | exact Or.inl rfl | exact Or.inr rfl) (E4 Se (J1 (A8 B5 B0)) (Q9 (N':=["_law_turn", "_law_left_here", "_law_view"]) (cap:=[none,some 2,some 6]) (cl:=[("_law_view",_),("_law_left_here",_)]) (K2 ⟨⟨rfl,rfl,rfl,rfl⟩,⟨⟨rfl,rfl,rfl,rfl⟩,trivial⟩⟩ ⟨rfl,⟨rfl,trivial⟩⟩) rfl (Sz T.b_range (A8 B5 B0)) (fun _ _ _ _=>by exact⟨(pgC 0),E9,(C5 T.law_some G_law_some (hr.mono (by decide)) (@A8 _ _ _ _ _ (pv 1) (@A8 _ _ _ _ _ (pv 2) B0 (by rfl)) (by rfl)))⟩))))) D9)
   (B2 (M9 PassesOwn.never rfl (piL K (pv 7)) (E1 (i:=8) sc.nd rfl (by first | exact Or.inl rfl | exact Or.inr rfl))
   (B3 (J8 (M2 (G7 (C5 T.law_set_right G_law_set_right (hr.mono (by decide)) (@A8 _ _ _ _ _ (pv 2) (@A8 _ _ _ _ _ (pv 5) (@A8 _ _ _ _ _ (pv 3) (@A8 _ _ _ _ _ (pv 4) (@A8 _ _ _ _ _ (C5 T.law_set_of G_law_set_of (hr.mono (by decide)) (@A8 _ _ _ _ _ (pv 6) (@A8 _ _ _ _ _ (pv 8) B0 (by rfl)) (by rfl))) B0 (by rfl)) (by rfl)) (by rfl)) (by rfl)) (by rfl))))) (B3 (C0 m9)) D9)))
   (@B3 _ _ _ (@M9 _ _ _ _ _ _ _ _ PassesOwn.never rfl (Sz T.b_range (@A8 _ _ _ _ _ (@G9 _ _ _ _ _ _ _ (ixL K) (@J1 _ _ _ _ (@A8 _ _ _ _ _ B5 (@A8 _ _ _ _ _ B5 (@A8 _ _ _ _ _ B5 (@A8 _ _ _ _ _ B5 (@A8 _ _ _ _ _ B5 (@A8 _ _ _ _ _ B5 (@A8 _ _ _ _ _ B5 (@A8 _ _ _ _ _ B5 (@A8 _ _ _ _ _ B5 (@A8 _ _ _ _ _ B5 (@A8 _ _ _ _ _ B5 B0 (by rfl)) (by rfl)) (by rfl)) (by rfl)) (by rfl)) (by rfl)) (by rfl)) (by rfl)) (by rfl)) (by rfl)) (by rfl))) (D6 (J9 K) T.b_len J3 (A8 (pv 3) B0)) (fun _ _=>rfl)) B0 (by rfl))) (E1 (i:=9) sc.nd rfl (by first | exact Or.inl rfl | exact Or.inr rfl))
   (B3 (J8 (M2 (G7 (C5 T.law_words_right G_law_words_right (hr.mono (by decide)) (@A8 _ _ _ _ _ (pv 5) (@A8 _ _ _ _ _ (pv 3) (@A8 _ _ _ _ _ (pv 9) B0 (by rfl)) (by rfl)) (by rfl))))) (B3 (C0 m9)) D9)) (fun _=>rfl))))))))))))
   (B3 (C0 m9))),?_⟩
  refine ex1 rfl (B8 (a:=u) rfl (.inl hS) ⟨_,ex1 rfl ⟨_,ex1 rfl (ex1 rfl ?_)⟩⟩)
  have hz:∀l:Int,∃z:Nat,(if(if(6:Int)<l then 6 else l)>3 then(if(6:Int)<l then 6 else l)else 3) =(z:Int)/\z<=10:=fun l=>by
   by_cases h1:(6:Int)<l
   ·rw[if_pos h1];exact⟨6,by decide,by decide⟩
   ·rw[if_neg h1]
    by_cases h2:l>3
    ·rw[if_pos h2];exact⟨l.toNat,by omega,by omega⟩
    ·rw[if_neg h2];exact⟨3,by decide,by decide⟩
  obtain⟨z,ez,hz⟩:=hz ((xs.map V.int).length:Int)
  rw[ez]
  refine⟨by omega,by omega,?_⟩
  rw[Int.toNat_natCast]
  refine K9 (fun i σ H1=>(∃v1 v2 v3 v4 v5 v6 v7 v8 v9,σ = [some (.ref u),v1,v2,v3,v4,v5,v6,v7,v8,v9])/\Same H H1) ?_ ?_ ?_
  ·exact⟨⟨_,_,_,_,_,_,_,_,_,rfl⟩,fun b o e=>e⟩
  ·rintro i σ H0 hi ⟨⟨v1,v2,v3,v4,v5,v6,v7,v8,v9,rfl⟩,s0⟩ D1 hD1 _
   rw[Int.zero_add]
   refine Ya fun N1 hN1=>?_
   refine ex1 rfl (ex1 rfl ⟨u,xs,i,rfl,(s0.at u).seqL hS,by omega,fun p H1 hp s1 L1=>?_⟩)
   refine hN1 _ _ (C2 fun N2 hN2=>?_)
   refine ex1 rfl (ex1 rfl ⟨p,0,rfl,L1,by decide,fun sz H2 hsz k2 L2=>?_⟩)
   refine⟨p,_,sz,rfl,L2,by omega,by omega,fun n ss H3 hn k3 e3 l3 N3 L3=>?_⟩
   have k3:=k2.trans k3
   refine hN2 _ _ (C2 fun N4 hN4=>?_)
   refine ex1 rfl (ex1 rfl ⟨p,n,_,ss,rfl,L3,by omega,e3,N3,by omega,fun a ps c H6 ha k4 a6 pin6 O6 hc4 L6=>?_⟩)
   have e6:H6 n=some (.lst (ss.map V.str)):=Sm1 k4 e3 (L3.ne e3)
   have k6:=k3.trans k4
   have l6:ss.length<=10:=by omega
   have e0:=L6.get
   refine hN4 _ _ (C2 fun N7 hN7=>?_)
   refine ex1 rfl (ex1 rfl ?_)
   intro x dx nx ndx nex
   have sx:Same H6 (upd (upd H6 dx (.own x)) x (.ins T.CWeb dx [])):=fun b o e=>by
    rw[B6 (B1 e nx),B6 (B1 e ndx)]
    exact e
   refine Zt (a:=x) (b:=dx) (c:=n) (d:=ss) (e:=a) (f:=ps) rfl A9 (sx _ _ e6) N3 (sx _ _ a6) (E6 sx pin6) O6 fun ns qs H7 pn srn pq srq k7 W7=>⟨rfl,?_⟩
   have s7:Same H6 H7:=fun b o e=>k7 b o (sx b o e) (by simpa using B1 e nx)
   refine hN7 _ _ (C2 fun N8 hN8=>?_)
   refine ex1 rfl (ex1 rfl (Zv (a:=n) (b:=a) (c:=ss) (d:=ps) rfl (s7 _ _ e6) N3 (s7 _ _ a6) (E6 s7 pin6) O6 fun v ns' A B H8 hv s8 pm srt V8=>?_))
   have en:ns'=ns:=O5 srt srn (pm.trans pn.symm)
   subst en
   have V8:=V8 _ _ (s7 _ _ e0)
   have W8:=W7.same s8
   have s8:=s7.trans s8
   have L8:=L6.same s8
   have n8:=s8 _ _ e6
   have a8:=s8 _ _ a6
   have pin8:=E6 s8 pin6
   have k8:Sm [p] H1 H8:=k6.trans s8.sm
   have lenn:ns'.length<=10:=by rw[pm.length_eq];exact l6
   have nmn:∀y∈ns',I9 y=true:=fun y hy=>N3.1 y (pm.mem_iff.mp hy)
   have lm:(ss.map V.str).length=ss.length:=List.length_map ..
   refine hN8 _ _ (C2 fun N9 hN9=>?_)
   refine ex1 rfl (B8 (a:=n) rfl (.inl (SqL.of n8)) ⟨_,ex1 rfl ?_⟩)
   rw[lm,zBm]
   have hz:min 7 ss.length<=7:=Nat.min_le_left ..
   generalize hmin:min 7 ss.length=z at hz⊢
   have hpz:2^z<=2^7:=Nat.pow_le_pow_right (by decide) hz
   refine B8 rfl rfl ⟨⟨by omega,by omega,by decide⟩,?_⟩
   dsimp only
   rw[Td]
   refine ex1 rfl (fun r hr0=>⟨r,2^z,rfl,A9,by omega,fun m hm=>?_⟩)
   have s9:=(Same.new (o:=.rng 0 ((2^z:Nat):Int)) hr0).trans (Same.new (o:=.lst ((List.range (2^z)).map fun k:Nat=>V.int (k:Int))) hm)
   have e9:(upd (upd H8 r (.rng 0 ((2^z:Nat):Int))) m (.lst ((List.range (2^z)).map fun k:Nat=>V.int (k:Int)))) m=some (.lst ((List.range (2^z)).map Dl)):=A9
   have mp:m≠p:=fun e=>by rw[e,(L8.same (Same.new (o:=.rng 0 ((2^z:Nat):Int)) hr0)).get]at hm;cases hm
   generalize upd (upd H8 r (.rng 0 ((2^z:Nat):Int))) m (.lst ((List.range (2^z)).map fun k:Nat=>V.int (k:Int)))=H9 at s9 e9⊢
   refine hN9 _ _ (C2 fun N10 hN10=>?_)
   have n9:=s9 _ _ n8
   have L9:=L8.same s9
   have V9:=V8.same s9
   have e99:=L9.get
   refine ex1 rfl (B8 (a:=n) rfl (.inl (SqL.of n9)) (B8 rfl rfl (ex1 rfl ?_)))
   refine Ii (fun σ G=>∃(m:Addr) (ms:List Nat) (c:Int) (v8 v9:Option V),σ = [some (.ref u),some (.int (i:Int)),some (.ref p),some (.ref n),some (.ref a),some (.ref x),some (.ref v),some (.ref m),v8,v9]/\Sm [p] H9 G/\LeftAt G p c/\c<=20000/\G m=some (.lst (ms.map Dl))/\ms.length<=128/\m≠p) ?_ ?_ ?_
   ·rintro σ H10 ⟨m,ms,c,v8,v9,rfl,k10,L10,c10,e10,l10,mp⟩
    have W10:=(W8.same s9).sm L9 k10
    have V10:=V9.sm k10
    have n10:=Sm1 k10 n9 (L9.ne n9)
    have a9:=s9 _ _ a8
    have a10:=Sm1 k10 a9 (L9.neP a9)
    have pin10:∀q∈ps,D0 H10 q:=fun q hq=>Ho (s9 _ _ (pin8 q hq)) L9 k10
    have k10:Sm [p] H1 H10:=(k8.trans s9.sm).trans k10
    refine hN10 _ _ (C2 fun N11 hN11=>?_)
    refine ex1 rfl ⟨m,rfl,⟨_,SqL.of e10⟩,U2 (asL (SqL.of e10)) (fun j σ G=>(∃v8 v9,σ = [some (.ref u),some (.int (i:Int)),some (.ref p),some (.ref n),some (.ref a),some (.ref x),some (.ref v),some (.ref m),v8,v9])/\Sm [p] H10 G/\LeftAt G p (c+3 *(j:Int))) ?_ ?_ ?_ ?_⟩
    ·exact⟨⟨_,_,rfl⟩,Sm.refl _ _,L10.cast (by omega)⟩
    ·rintro j σ G _ ⟨_,k,_⟩ o e
     exact Sm1 k e mp
    ·rintro j σ G y hy ⟨⟨v8,v9,rfl⟩,kG,LG⟩ D2 hD2 _
     rw[List.getElem?_map]at hy
     obtain⟨mk,ho,rfl⟩:=Option.map_eq_some_iff.mp hy
     have hj:j<ms.length:=(List.getElem?_eq_some_iff.mp ho).1
     refine ex1 rfl (ex1 rfl (ex1 rfl (ex1 rfl (ex1 rfl (ex1 rfl (Sq (a:=p) (b:=v) (c:=mk) (d:=ns') (f:=A) (g:=B) rfl (V10.sm kG) (by omega) fun l G1 hl sl el=>?_))))))
     refine⟨p,x,n,a,l,_,ss,ns',_,ps,qs,rfl,LG.same sl,by omega,(W10.sm L10 kG).same sl,sl _ _ (Sm1 kG n10 (L10.ne n10)),pm,nmn,sl _ _ (Sm1 kG a10 (L10.neP a10)),fun q hq=>sl _ _ (Ho (pin10 q hq) L10 kG),pq,el,Mj ns' mk,fun G2 kG2 LG2=>⟨_,rfl,S6 ?_⟩⟩
     exact hD2 _ _ ⟨⟨_,_,rfl⟩,kG.trans (sl.sm.trans kG2),LG2.cast (by omega)⟩
    ·rintro σ G ⟨⟨v8,v9,rfl⟩,kG,LG⟩
     have WG:=W10.sm L10 kG
     have nG:=Sm1 kG n10 (L10.ne n10)
     have kG:=k10.trans kG
     refine hN11 _ _ ?_
     refine⟨by show 11<=sizeLine;decide,fun t ht=>?_⟩
     have ut:=Same.new (o:=.lst [.int 1,.int 3,.int 9,.int 27,.int 81,.int 0,.int 0,.int 0,.int 0,.int 0,.int 0]) ht
     have ft:(upd G t (.lst [.int 1,.int 3,.int 9,.int 27,.int 81,.int 0,.int 0,.int 0,.int 0,.int 0,.int 0])) t=some (.lst [.int 1,.int 3,.int 9,.int 27,.int 81,.int 0,.int 0,.int 0,.int 0,.int 0,.int 0]):=A9
     generalize upd G t (.lst [.int 1,.int 3,.int 9,.int 27,.int 81,.int 0,.int 0,.int 0,.int 0,.int 0,.int 0])=G1 at ut ft⊢
     refine ex1 rfl (B8 (a:=n) rfl (.inl (SqL.of (ut _ _ nG))) ?_)
     rw[lm]
     obtain⟨z2,hz2,ez2⟩:=Zs l6
     refine⟨t,_,B8 rfl rfl ⟨SqL.of ft,ez2,_,rfl,by omega,by omega,?_⟩⟩
     rw[Int.toNat_natCast]
     refine K9 (fun j σ G2=>(∃v8 v9,σ = [some (.ref u),some (.int (i:Int)),some (.ref p),some (.ref n),some (.ref a),some (.ref x),some (.ref v),some (.ref m),v8,v9])/\Same G1 G2) ?_ ?_ ?_
     ·exact⟨⟨_,_,rfl⟩,fun b o e=>e⟩
     ·rintro j σ G2 hj ⟨⟨v8,v9,rfl⟩,s2⟩ D3 hD3 _
      rw[Int.zero_add]
      refine ex1 rfl (ex1 rfl (ex1 rfl ⟨x,n,j,ss,ns',qs,rfl,(WG.same ut).same s2,s2 _ _ (ut _ _ nG),pm,nmn,fun G3 s3=>⟨_,rfl,S6 ?_⟩⟩))
      exact hD3 _ _ ⟨⟨_,_,rfl⟩,s2.trans s3⟩
     ·rintro σ G2 ⟨⟨v8,v9,rfl⟩,s2⟩
      refine hD1 _ _ ⟨⟨_,_,_,_,_,_,_,_,_,rfl⟩,fun b o e=>?_⟩
      have nb:b∉[p]:=by simpa using B1 (s0 b o e) hp
      exact s2 _ _ (ut _ _ (kG b o (s1 b o (s0 b o e)) nb))
   ·intro hJ _
    refine⟨by show 1<=sizeLine;decide,fun t ht=>?_⟩
    have npt:p≠t:=B1 e99 ht
    have s11:Same H9 (upd H9 t (.lst [.int 0])):=Same.new ht
    refine⟨_,rfl,by decide,by decide,fun E hE=>?_⟩
    have hE9:H9 E=none:=s11.free hE
    have npE:p≠E:=B1 e99 hE9
    have ntE:t≠E:=B1 A9 hE
    refine Be (n:=40) (fun j σ G=>(∃v0,σ = [v0,some (.ref p),some (.ref v)])/\Sm [p] H9 G/\LeftAt G p (c+j *(ns'.length+1))/\G t=some (.lst [.int 0])/\∃ms:List Nat,G E=some (.lst (ms.map Dl))/\ms.length=j) ?_ ?_ ?_ ?_ ?_
    ·exact⟨⟨_,rfl⟩,(s11.trans (Same.new hE)).sm,(L9.cast (by omega)).same (s11.trans (Same.new hE)),(B6 ntE).trans A9,[],A9,rfl⟩
    ·intro i σ H1 hi _
     exact hi
    ·intro σ H1 _
     exact Nat.le_refl _
    ·rintro j σ G y H' N hj ⟨⟨v0,rfl⟩,kG,LG,tG,ms,eG,lG⟩ ⟨rfl,rfl⟩ hN
     refine R0 ?_
     have hmul:((j:Int)+1) *(ns'.length+1)=j *(ns'.length+1) +(ns'.length+1):=by rw[Int.add_mul,Int.one_mul]
     have hb:(j:Int) *(ns'.length+1)<=40*31:=by
      have h1:(j:Int) *(ns'.length+1)<=40 *(ns'.length+1):=Int.mul_le_mul_of_nonneg_right (by omega) (by omega)
      omega
     refine ex1 rfl (ex1 rfl ⟨p,v,_,ns',U5 (b:=A) (c:=B) rfl LG (by omega) (V9.sm kG) (by omega) fun m G' lo' k' L'=>?_⟩)
     refine⟨_,Sm1 k' eG npE.symm,by rw[List.length_map,sizeLine_eq];omega,hN _ _ ⟨⟨_,rfl⟩,(kG.trans k').updN hE9,?_,?_,ms ++ [m],?_,by rw[List.length_append,lG];rfl⟩⟩
     ·refine LeftAt.upd (L'.cast ?_) npE
      have:((j+1:Nat):Int) =(j:Int)+1:=by omega
      rw[this,hmul]
      omega
     ·rw[B6 ntE];exact Sm1 k' tG npt.symm
     ·rw[A9,List.map_append];rfl
    ·rintro σ G ⟨⟨v0,rfl⟩,kG,LG,tG,ms,eG,lG⟩
     refine⟨t,E,B8 rfl rfl ⟨tG,eG,by rw[List.length_map,sizeLine_eq];show 1+ms.length<=_;omega,fun m' hm'=>?_⟩⟩
     have um:=Same.new (o:=.lst ([.int 0]++ms.map Dl)) hm'
     refine hJ _ _ ⟨m',0::ms,_,_,_,rfl,kG.trans um.sm,LG.same um,?_,A9,by rw[List.length_cons];omega,(B1 LG.get hm').symm⟩
     show c +(40:Int) *(ns'.length+1)<=20000
     omega
   ·intro _
    exact⟨m,_,c,_,_,rfl,Sm.refl _ _,L9,by omega,e9,by rw[List.length_range];exact hpz,mp⟩
  ·rintro σ H1 _
   exact q H1
end
section
variable{K:PySem.W.Frag}{h:Heap}{mg:Str->Option Value}
noncomputable def fn_mk{x:Str}{st:Stmt}{ps:List Str}{f:Addr}{oc:Value}{od an:Option Addr}{osl:Array (Option Value)}{kV doc pm cdv ct:Value}(X:K.In h)(G:h.Ns mainGlobals mg)(a:PySem.W.nsIn K mainGlobals x=some (some (.ref f)))
  (l:K.lookup f=some ⟨oc,od,.func (PySem.W.fnOf x x (O3 st) (M5 st) (B7 st) .none kV doc pm an cdv ct),osl⟩) (c:PySem.W.codeIn K cdv x=true) (k:PySem.W.keepIn K (.ref f)=true)
  (hb:∀(kV doc pm:Value) (an:Option Addr) (cdv ct:Value) (us:List Value),us.length=ps.length->bindArgs (PySem.W.fnOf x x (O3 st) (M5 st) (B7 st) .none kV doc pm an cdv ct) ⟨us,[]⟩=pure (ps.zip us)):Fn K mg x st ps :=
 ⟨f,_,fun_mk l c k,(fun_mk l c k).binds hb,PySem.W.mg_of X G a⟩
noncomputable def mt_mk{C:Addr}{x q:Str}{st:Stmt}{ps:List Str}{f:Addr}{oc:Value}{od an:Option Addr}{osl:Array (Option Value)}{kV doc pm cdv ct:Value}(a:PySem.W.findIn K (.ref C) x=some (some (.ref f)))(i:PySem.W.isFn K (.ref f)=true)
  (l:K.lookup f=some ⟨oc,od,.func (PySem.W.fnOf x q (O3 st) (M5 st) (B7 st) .none kV doc pm an cdv ct),osl⟩) (c:PySem.W.codeIn K cdv q=true) (k:PySem.W.keepIn K (.ref f)=true)
  (hb:∀(kV doc pm:Value) (an:Option Addr) (cdv ct:Value) (us:List Value),us.length=ps.length->bindArgs (PySem.W.fnOf x q (O3 st) (M5 st) (B7 st) .none kV doc pm an cdv ct) ⟨us,[]⟩=pure (ps.zip us)):Mt K C x q st ps :=
 ⟨f,_,fun_mk l c k,(fun_mk l c k).binds hb,⟨a,i,k⟩⟩
theorem str_mk{x z:Str}{v:Value}(X:K.In h)(G:h.Ns mainGlobals mg)(a:PySem.W.nsIn K mainGlobals x=some (some v))(e:∃t,v = .str z t):∃t,mg x=some (.str z t):=by
 obtain⟨t,rfl⟩:=e
 exact⟨t,PySem.W.mg_of X G a⟩
theorem int_mk{x:Str}{z:Int}{v:Value}(X:K.In h)(G:h.Ns mainGlobals mg)(a:PySem.W.nsIn K mainGlobals x=some (some v))(e:∃t,v = .int z t):∃t,mg x=some (.int z t):=by
 obtain⟨t,rfl⟩:=e
 exact⟨t,PySem.W.mg_of X G a⟩
theorem len1{us:List Value}(h:us.length=1):∃a,us = [a]:=List.length_eq_one_iff.mp h
theorem len2{us:List Value}(h:us.length=2):∃a b,us = [a,b]:=by
 cases us with
 | nil=>cases h
 | cons a r=>obtain⟨b,rfl⟩:=len1 (Nat.succ.inj h);exact⟨a,b,rfl⟩
theorem len3{us:List Value}(h:us.length=3):∃a b c,us = [a,b,c]:=by
 cases us with
 | nil=>cases h
 | cons a r=>obtain⟨b,c,rfl⟩:=len2 (Nat.succ.inj h);exact⟨a,b,c,rfl⟩
theorem zBb{us:List Value}(h:us.length=4):∃a b c d,us = [a,b,c,d]:=by
 cases us with
 | nil=>cases h
 | cons a r=>obtain⟨b,c,d,rfl⟩:=len3 (Nat.succ.inj h);exact⟨a,b,c,d,rfl⟩
theorem len5{us:List Value}(h:us.length=5):∃a b c d e,us = [a,b,c,d,e]:=by
 cases us with
 | nil=>cases h
 | cons a r=>obtain⟨b,c,d,e,rfl⟩:=zBb (Nat.succ.inj h);exact⟨a,b,c,d,e,rfl⟩
theorem noattr_mk{C:Addr}{f:Str}(h:PySem.W.findIn K (.ref C) f=some none):NoAttr K C f:=h
end
theorem all_mk{l:PySem.W.OpenLaw}{w:World}{K:PySem.W.Frag}{h:Heap}{mg:Str->Option Value}{fa f:Addr}{oc:Value}{od an:Option Addr}{osl:Array (Option Value)}{kV doc pm cdv ct:Value}(X:K.In h)(G:h.Ns mainGlobals mg)(hfa:mg "law" = some (.ref fa))
  (T:Tx K mg) (a:PySem.W.nsIn K mainGlobals "law" = some (some (.ref f))) (lk:K.lookup f=some ⟨oc,od,.func (PySem.W.fnOf "law" "law" (O3 s_law) (M5 s_law) (B7 s_law) .none kV doc pm an cdv ct),osl⟩) (c:PySem.W.codeIn K cdv "law" = true) (k:PySem.W.keepIn K (.ref f)=true) :
  ∃fd:FuncData,(∀(s:Shared) (v:Value),BindsTo s fd ⟨[v],[]⟩ [("_law_script",v)])/\∀base:Heap,K.In base->base.Ns mainGlobals mg->FnOk l.prog w K mg base CX0 8 fa fd ["_law_script"] (Il K):=by
 have e:=hfa.symm.trans (PySem.W.mg_of X G a)
 cases e
 exact⟨PySem.W.fnOf "law" "law" (O3 s_law) (M5 s_law) (B7 s_law) .none kV doc pm an cdv ct,fun s v=>.of_eq rfl,fun base _ _=>Vn T (fun_mk lk c k)⟩
theorem walk{l:PySem.W.OpenLaw}{q:Program}{loose:List Str}{XP:(Str->Option Value)->Heap->Prop}{YP:World->Heap->Prop}{d:DefRec}{K:Params->PySem.W.Frag}(hn:l.most=some 63)(hdf:d.params.defaults = [])
  (hY:∀(w:World) (h:Heap),YP w h->(K w.params).In h)
  (F:∀(w:World) (mg:Str->Option Value) (fa:Addr) (h:Heap),(K w.params).In h->h.Ns mainGlobals mg->mg d.name=some (.ref fa) ->
   ∃fd:FuncData,(∀(s:Shared) (u:Value),BindsTo s fd ⟨[u],[]⟩ [("_law_script",u)])/\∀base:Heap,(K w.params).In base->base.Ns mainGlobals mg->FnOk l.prog w (K w.params) mg base CX0 8 fa fd ["_law_script"] (Il (K w.params))) :
  PySem.W.WalkO q loose XP YP l.row.toRowW d [] (fun f vs=>PySem.call f vs) :=
 L2.walk_of (n:=63) (k:=8) (x := "_law_script") (CX:=fun _=>CX0) (sp:=fun w=>Il (K w.params)) hn (by decide) hdf ⟨rfl,by decide,by decide⟩ hY F (fun _ _ a ns hl _ hS=>⟨a,ns,rfl,hS,hl,fun _=>rfl⟩) fun _ _ _ _ _ z=>z
end Sw
open PySem PySem.W PyProof.Rows
set_option maxRecDepth 100000 in
set_option maxHeartbeats 0 in
theorem PySem.Challenge.cw_strikeweave_k80_whole_sets_by_going_thro_holds : PySem.Challenge.rw_strikeweave_k80_whole_sets_by_going_thro.Holds := by
 w_on;o_law;k_head;(case hw=>w_witness2)
 k_fill
 refine Sw.walk (l:=PySem.Challenge.rw_strikeweave_k80_whole_sets_by_going_thro) rfl rfl (fun w h Y=>PySem.W.kIn_of Y) ?F
 case F =>
  intro w mg fa h KX G hmg
  refine' Sw.all_mk KX G hmg (Sw.Tx.mk (Sw.fn_mk KX G ?a1 ?l2 ?c3 ?k4 (fun _ _ _ _ _ _ us hl=>by obtain⟨a,b,rfl⟩:=Sw.len2 hl;rfl))
   (Sw.fn_mk KX G ?a5 ?l6 ?c7 ?k8 (fun _ _ _ _ _ _ us hl=>by obtain⟨a,b,rfl⟩:=Sw.len2 hl;rfl))
   (Sw.fn_mk KX G ?a9 ?l10 ?c11 ?k12 (fun _ _ _ _ _ _ us hl=>by obtain⟨a,b,rfl⟩:=Sw.len2 hl;rfl))
   (Sw.fn_mk KX G ?a13 ?l14 ?c15 ?k16 (fun _ _ _ _ _ _ us hl=>by obtain⟨a,b,rfl⟩:=Sw.len2 hl;rfl))
   (Sw.fn_mk KX G ?a17 ?l18 ?c19 ?k20 (fun _ _ _ _ _ _ us hl=>by obtain⟨a,b,rfl⟩:=Sw.len2 hl;rfl))
   (Sw.fn_mk KX G ?a21 ?l22 ?c23 ?k24 (fun _ _ _ _ _ _ us hl=>by obtain⟨a,b,rfl⟩:=Sw.len2 hl;rfl))
   (Sw.fn_mk KX G ?a25 ?l26 ?c27 ?k28 (fun _ _ _ _ _ _ us hl=>by obtain⟨a,b,rfl⟩:=Sw.len2 hl;rfl))
   (Sw.fn_mk KX G ?a29 ?l30 ?c31 ?k32 (fun _ _ _ _ _ _ us hl=>by obtain⟨a,b,rfl⟩:=Sw.len2 hl;rfl))
   (Sw.fn_mk KX G ?a33 ?l34 ?c35 ?k36 (fun _ _ _ _ _ _ us hl=>by obtain⟨a,b,rfl⟩:=Sw.len2 hl;rfl))
   (Sw.fn_mk KX G ?a37 ?l38 ?c39 ?k40 (fun _ _ _ _ _ _ us hl=>by obtain⟨a,b,rfl⟩:=Sw.len2 hl;rfl))
   (Sw.fn_mk KX G ?a41 ?l42 ?c43 ?k44 (fun _ _ _ _ _ _ us hl=>by obtain⟨a,b,rfl⟩:=Sw.len2 hl;rfl))
   (Sw.fn_mk KX G ?a45 ?l46 ?c47 ?k48 (fun _ _ _ _ _ _ us hl=>by obtain⟨a,b,c,rfl⟩:=Sw.len3 hl;rfl))
   (Sw.fn_mk KX G ?a49 ?l50 ?c51 ?k52 (fun _ _ _ _ _ _ us hl=>by obtain⟨a,rfl⟩:=Sw.len1 hl;rfl))
   (Sw.fn_mk KX G ?a53 ?l54 ?c55 ?k56 (fun _ _ _ _ _ _ us hl=>by obtain⟨a,rfl⟩:=Sw.len1 hl;rfl))
   (Sw.fn_mk KX G ?a57 ?l58 ?c59 ?k60 (fun _ _ _ _ _ _ us hl=>by obtain⟨a,b,rfl⟩:=Sw.len2 hl;rfl))
   (Sw.fn_mk KX G ?a61 ?l62 ?c63 ?k64 (fun _ _ _ _ _ _ us hl=>by obtain⟨a,b,rfl⟩:=Sw.len2 hl;rfl))
   (Sw.fn_mk KX G ?a65 ?l66 ?c67 ?k68 (fun _ _ _ _ _ _ us hl=>by obtain⟨a,b,rfl⟩:=Sw.len2 hl;rfl))
   (Sw.fn_mk KX G ?a69 ?l70 ?c71 ?k72 (fun _ _ _ _ _ _ us hl=>by obtain⟨a,b,rfl⟩:=Sw.len2 hl;rfl))
   (Sw.fn_mk KX G ?a73 ?l74 ?c75 ?k76 (fun _ _ _ _ _ _ us hl=>by obtain⟨a,b,rfl⟩:=Sw.len2 hl;rfl))
   (Sw.fn_mk KX G ?a77 ?l78 ?c79 ?k80 (fun _ _ _ _ _ _ us hl=>by obtain⟨a,b,rfl⟩:=Sw.len2 hl;rfl))
   (Sw.fn_mk KX G ?a81 ?l82 ?c83 ?k84 (fun _ _ _ _ _ _ us hl=>by obtain⟨a,rfl⟩:=Sw.len1 hl;rfl))
   (Sw.fn_mk KX G ?a85 ?l86 ?c87 ?k88 (fun _ _ _ _ _ _ us hl=>by obtain⟨a,b,rfl⟩:=Sw.len2 hl;rfl))
   (Sw.fn_mk KX G ?a89 ?l90 ?c91 ?k92 (fun _ _ _ _ _ _ us hl=>by obtain⟨a,b,rfl⟩:=Sw.len2 hl;rfl))
   (Sw.fn_mk KX G ?a93 ?l94 ?c95 ?k96 (fun _ _ _ _ _ _ us hl=>by obtain⟨a,b,rfl⟩:=Sw.len2 hl;rfl))
   (Sw.fn_mk KX G ?a97 ?l98 ?c99 ?k100 (fun _ _ _ _ _ _ us hl=>by obtain⟨a,b,rfl⟩:=Sw.len2 hl;rfl))
   (Sw.fn_mk KX G ?a101 ?l102 ?c103 ?k104 (fun _ _ _ _ _ _ us hl=>by obtain⟨a,b,rfl⟩:=Sw.len2 hl;rfl))
   (Sw.fn_mk KX G ?a105 ?l106 ?c107 ?k108 (fun _ _ _ _ _ _ us hl=>by obtain⟨a,b,rfl⟩:=Sw.len2 hl;rfl))
   (Sw.fn_mk KX G ?a109 ?l110 ?c111 ?k112 (fun _ _ _ _ _ _ us hl=>by obtain⟨a,b,rfl⟩:=Sw.len2 hl;rfl))
   (Sw.fn_mk KX G ?a113 ?l114 ?c115 ?k116 (fun _ _ _ _ _ _ us hl=>by obtain⟨a,b,rfl⟩:=Sw.len2 hl;rfl))
   (Sw.fn_mk KX G ?a117 ?l118 ?c119 ?k120 (fun _ _ _ _ _ _ us hl=>by obtain⟨a,b,rfl⟩:=Sw.len2 hl;rfl))
   (Sw.fn_mk KX G ?a121 ?l122 ?c123 ?k124 (fun _ _ _ _ _ _ us hl=>by obtain⟨a,b,rfl⟩:=Sw.len2 hl;rfl))
   (Sw.fn_mk KX G ?a125 ?l126 ?c127 ?k128 (fun _ _ _ _ _ _ us hl=>by obtain⟨a,b,c,rfl⟩:=Sw.len3 hl;rfl))
   (Sw.fn_mk KX G ?a129 ?l130 ?c131 ?k132 (fun _ _ _ _ _ _ us hl=>by obtain⟨a,b,c,d,e,rfl⟩:=Sw.len5 hl;rfl))
   (Sw.fn_mk KX G ?a133 ?l134 ?c135 ?k136 (fun _ _ _ _ _ _ us hl=>by obtain⟨a,b,c,rfl⟩:=Sw.len3 hl;rfl))
   _
   ⟨?g138,?g139,?g140,?g141⟩
   (PySem.W.mg_of KX G ?q137)
   (Sw.noattr_mk ?n142)
   (Sw.noattr_mk ?n143)
   (Sw.noattr_mk ?n144)
   (Sw.noattr_mk ?n145)
   _
   _
   (L2.fun_mk ?l148 ?c149 ?k150)
   (L2.Fun.binds (L2.fun_mk ?l148 ?c149 ?k150) (fun _ _ _ _ _ _ us hl=>by obtain⟨a,b,c,rfl⟩:=Sw.len3 hl;rfl))
   ⟨?g151,?a146,?i147,?k152⟩
   (Sw.mt_mk ?a153 ?i154 ?l155 ?c156 ?k157 (fun _ _ _ _ _ _ us hl=>by obtain⟨a,rfl⟩:=Sw.len1 hl;rfl))
   (Sw.mt_mk ?a158 ?i159 ?l160 ?c161 ?k162 (fun _ _ _ _ _ _ us hl=>by obtain⟨a,rfl⟩:=Sw.len1 hl;rfl))
   (Sw.mt_mk ?a163 ?i164 ?l165 ?c166 ?k167 (fun _ _ _ _ _ _ us hl=>by obtain⟨a,b,rfl⟩:=Sw.len2 hl;rfl))
   (Sw.mt_mk ?a168 ?i169 ?l170 ?c171 ?k172 (fun _ _ _ _ _ _ us hl=>by obtain⟨a,b,rfl⟩:=Sw.len2 hl;rfl))
   (Sw.mt_mk ?a173 ?i174 ?l175 ?c176 ?k177 (fun _ _ _ _ _ _ us hl=>by obtain⟨a,b,rfl⟩:=Sw.len2 hl;rfl))
   _
   (PySem.W.mg_of KX G ?v178)
   (L2.gtup_mk ?l179 ?y180)
   (Sw.str_mk KX G ?v181 ?e182)
   (Sw.int_mk KX G ?v183 ?e184)
   (PySem.W.mg_none_of KX G ?z185)
   (PySem.W.mg_none_of KX G ?z186)
   (PySem.W.mg_none_of KX G ?z187)
   (PySem.W.mg_none_of KX G ?z188)
   (PySem.W.mg_none_of KX G ?z189)
   (PySem.W.mg_none_of KX G ?z190)
   (PySem.W.mg_none_of KX G ?z191)
   (PySem.W.mg_none_of KX G ?z192)
   (PySem.W.mg_none_of KX G ?z193)
   (PySem.W.mg_none_of KX G ?z194)
   (PySem.W.mg_none_of KX G ?z195)
   (PySem.W.mg_none_of KX G ?z196)
   (PySem.W.mg_none_of KX G ?z197)
   (PySem.W.mg_none_of KX G ?z198)
   (PySem.W.mg_none_of KX G ?z199)
   (PySem.W.mg_none_of KX G ?z200)
   (PySem.W.mg_none_of KX G ?z201)) ?aL ?lL ?cL ?kL
  (case a1=>k_is);(case l2=>k_is);(case c3=>k_is);(case k4=>k_is);(case a5=>k_is);(case l6=>k_is)
  (case c7=>k_is);(case k8=>k_is);(case a9=>k_is);(case l10=>k_is);(case c11=>k_is);(case k12=>k_is)
  (case a13=>k_is);(case l14=>k_is);(case c15=>k_is);(case k16=>k_is);(case a17=>k_is);(case l18=>k_is)
  (case c19=>k_is);(case k20=>k_is);(case a21=>k_is);(case l22=>k_is);(case c23=>k_is);(case k24=>k_is)
  (case a25=>k_is);(case l26=>k_is);(case c27=>k_is);(case k28=>k_is);(case a29=>k_is);(case l30=>k_is)
  (case c31=>k_is);(case k32=>k_is);(case a33=>k_is);(case l34=>k_is);(case c35=>k_is);(case k36=>k_is)
  (case a37=>k_is);(case l38=>k_is);(case c39=>k_is);(case k40=>k_is);(case a41=>k_is);(case l42=>k_is)
  (case c43=>k_is);(case k44=>k_is);(case a45=>k_is);(case l46=>k_is);(case c47=>k_is);(case k48=>k_is)
  (case a49=>k_is);(case l50=>k_is);(case c51=>k_is);(case k52=>k_is);(case a53=>k_is);(case l54=>k_is)
  (case c55=>k_is);(case k56=>k_is);(case a57=>k_is);(case l58=>k_is);(case c59=>k_is);(case k60=>k_is)
  (case a61=>k_is);(case l62=>k_is);(case c63=>k_is);(case k64=>k_is);(case a65=>k_is);(case l66=>k_is)
  (case c67=>k_is);(case k68=>k_is);(case a69=>k_is);(case l70=>k_is);(case c71=>k_is);(case k72=>k_is)
  (case a73=>k_is);(case l74=>k_is);(case c75=>k_is);(case k76=>k_is);(case a77=>k_is);(case l78=>k_is)
  (case c79=>k_is);(case k80=>k_is);(case a81=>k_is);(case l82=>k_is);(case c83=>k_is);(case k84=>k_is)
  (case a85=>k_is);(case l86=>k_is);(case c87=>k_is);(case k88=>k_is);(case a89=>k_is);(case l90=>k_is)
  (case c91=>k_is);(case k92=>k_is);(case a93=>k_is);(case l94=>k_is);(case c95=>k_is);(case k96=>k_is)
  (case a97=>k_is);(case l98=>k_is);(case c99=>k_is);(case k100=>k_is);(case a101=>k_is);(case l102=>k_is)
  (case c103=>k_is);(case k104=>k_is);(case a105=>k_is);(case l106=>k_is);(case c107=>k_is);(case k108=>k_is)
  (case a109=>k_is);(case l110=>k_is);(case c111=>k_is);(case k112=>k_is);(case a113=>k_is);(case l114=>k_is)
  (case c115=>k_is);(case k116=>k_is);(case a117=>k_is);(case l118=>k_is);(case c119=>k_is);(case k120=>k_is)
  (case a121=>k_is);(case l122=>k_is);(case c123=>k_is);(case k124=>k_is);(case a125=>k_is);(case l126=>k_is)
  (case c127=>k_is);(case k128=>k_is);(case a129=>k_is);(case l130=>k_is);(case c131=>k_is);(case k132=>k_is)
  (case a133=>k_is);(case l134=>k_is);(case c135=>k_is);(case k136=>k_is);(case q137=>k_is);(case g138=>k_is)
  (case g139=>k_is);(case g140=>k_is);(case g141=>k_is);(case n142=>k_is);(case n143=>k_is);(case n144=>k_is)
  (case n145=>k_is);(case a146=>k_is);(case i147=>k_is);(case l148=>k_is);(case c149=>k_is);(case k150=>k_is)
  (case g151=>k_is);(case k152=>k_is);(case a153=>k_is);(case i154=>k_is);(case l155=>k_is);(case c156=>k_is)
  (case k157=>k_is);(case a158=>k_is);(case i159=>k_is);(case l160=>k_is);(case c161=>k_is);(case k162=>k_is)
  (case a163=>k_is);(case i164=>k_is);(case l165=>k_is);(case c166=>k_is);(case k167=>k_is);(case a168=>k_is)
  (case i169=>k_is);(case l170=>k_is);(case c171=>k_is);(case k172=>k_is);(case a173=>k_is);(case i174=>k_is)
  (case l175=>k_is);(case c176=>k_is);(case k177=>k_is);(case v178=>k_is);(case l179=>k_is);(case y180=>exact⟨_,_,_,_,rfl,rfl⟩)
  (case v181=>k_is);(case e182=>exact⟨_,rfl⟩);(case v183=>k_is);(case e184=>exact⟨_,rfl⟩);(case z185=>k_is);(case z186=>k_is)
  (case z187=>k_is);(case z188=>k_is);(case z189=>k_is);(case z190=>k_is);(case z191=>k_is);(case z192=>k_is)
  (case z193=>k_is);(case z194=>k_is);(case z195=>k_is);(case z196=>k_is);(case z197=>k_is);(case z198=>k_is)
  (case z199=>k_is);(case z200=>k_is);(case z201=>k_is);(case aL=>k_is);(case lL=>k_is);(case cL=>k_is)
  (case kL=>k_is)
