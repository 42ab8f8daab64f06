import PyProof.Rows.All
import Wide.All
import OpenK.AllK
import Wide.FinOn
import PyProof.Rows.SortShellK
import KE.KSortTup
import Lean
import PyProof.EqAt
import PyProof.EqKinds
import PyProof.TupleCall
import PyProof.SetRoads
import PyProof.DictRoadsH
import PyProof.IsRules
import PyProof.CollectWalk
import PyProof.FactsAll.set
import PyProof.NeData
import PyProof.P3In
import PyProof.TupleOfSeq
import PyProof.ZipIter
import PyProof.Rows.ZipGen
import KE.KDictOf
import PyProof.AttrMissHeap
import PyProof.Rows.SumAny
import PyProof.DictIter
import PyProof.DictWalks
import PyProof.DictValues
import PySem.Challenge.RW_strikeweave_k24_greatest_sets
namespace PySem.W.Fast
def tw11817300039669436499:=0
def tw1299923205437503981:=0
def tw7823143393004479616:=0
def tw13749606696582454553:=0
def tw2326632471296594957:=0
def tw16050817075810694530:=0
def tw17841369732600397986:=0
def tw4208550256811566227:=0
def tw7322649022194093501:=0
def tw13122354671571840441:=0
def tw5045988748606920082:=0
def tw13285984535047231488:=0
def tw6382073368072950954:=0
def tw7698875808798873791:=0
def tw2890895869449466684:=0
def tw9974710185404952915:=0
def tw7885098643042606751:=0
def tw15997985097300753763:=0
def tw13041491837449734448:=0
def tw13657562881706360109:=0
def tw1004624659098349395:=0
def tw10313131364933983044:=0
def tw9131842494488167704:=0
def tw10522103904528501643:=0
def tw8764180800978513761:=0
def tw5552534488836719694:=0
def tw10191253559681077575:=0
def tw3676895520375818035:=0
def tw11945743052585424381:=0
def tw11705639571901489778:=0
def tw10336704125793412665:=0
def tw6439746790367502242:=0
def tw14653865933819157185:=0
def tw3563895683218623405:=0
def tw13676819921615188768:=0
def tw2512845221983407227:=0
def tw2425487906056226808:=0
def tw15371106560252937976:=0
def tw95325815871565902:=0
def tw4735741180450001985:=0
def tw12411333316296034176:=0
def tw9231195867133252030:=0
def tw10989752000198634764:=0
def tw18214203216428339866:=0
def tw15045969772567207468:=0
def tw16060651419782078563:=0
def tw16322719032604811459:=0
def tw1359557749281171487:=0
def tw11004304595547174304:=0
def tw9322353976140459232:=0
def tw16435861331005697674:=0
def tw2654715051695975425:=0
def tw15766686269150030285:=0
def tw2535458958773420711:=0
def tw7579518162205177338:=0
def tw2758382868751955757:=0
def tw4237016557394907517:=0
def tw14953224010979711433:=0
def tw12735017601398960871:=0
def tw7204981807096215080:=0
def tw15566004736609578426:=0
def tw10649806753631479245:=0
def tw3237410188612072148:=0
def tw15115548084468513246:=0
def tw5101568538074311557:=0
def tw16743369350981757591:=0
def tw10054894189491695475:=0
def tw10730474659345509895:=0
def tw5866504418596329413:=0
def tw15643769323139036488:=0
def tw5164964989888141752:=0
def tw4710350659215156846:=0
def tw8861517997088943287:=0
def tw12314969560432295758:=0
def tw12084369227780650596:=0
def tw1307535461680598090:=0
def tw9260560771203593753:=0
def tw18155532419852453502:=0
def tw14351722280667716602:=0
def tw11869348938108700021:=0
def tw6497711977456691476:=0
def tw9908639808480287638:=0
def tw4702687136854486427:=0
def tw553859529950186118:=0
def tw13855686569333863150:=0
def tw5132001408046830894:=0
def tw15625550037136886624:=0
def tw46189827582120459:=0
def tw8213500405205115938:=0
def tw10953244793725161269:=0
def tw8924945312085188821:=0
def tw8386160361782818790:=0
def tw13305938917718108409:=0
def tw8951692005943596874:=0
def tw4302708140109798405:=0
def tw10545370496240742299:=0
def tw18399844723769170349:=0
def tw13866691357373181034:=0
def tw6292333485541321916:=0
def tw1772562937961123707:=0
def tw10520786454072009475:=0
def tw16928935480156663095:=0
def tw2750692731788828363:=0
def tw8184822946961747762:=0
def tw666619833653720369:=0
def tw2512680835394267830:=0
def tw12698851064141252922:=0
def tw11866427977229478988:=0
def tw7455666760162139092:=0
def tw13433260820330524489:=0
def tw11828590307585494215:=0
def tw10939004601495284105:=0
def tw1594848974218323592:=0
def tw10948200557362669587:=0
def tw9298543165661345815:=0
def tw15740368872331882104:=0
def tw13954814419354601110:=0
def tw9995137944457535241:=0
def tw2565335852612304488:=0
def tw2905483206347819950:=0
def tw4896019381832704142:=0
def tw2520234194384647326:=0
def tw565628691997286588:=0
def tw7788977495457376653:=0
def tw7823671000756373935:=0
def tw4886236133233450253:=0
def tw4824312677925945916:=0
def tw15454835886429519957:=0
def tw7946306575782366563:=0
def tw4457108765421348725:=0
def tw16521006229100825012:=0
def tw1150070017710382746:=0
def tw9315095794658076844:=0
def tw12357090142260173177:=0
def tw16992388604943908760:=0
def tw2999282012906134703:=0
def tw11691700510501266111:=0
def tw998955273739586138:=0
def tw816855027722174653:=0
def tw16502174830060926398:=0
def tw4876094949749292992:=0
def tw4595651933801456026:=0
def tw8414736670593892668:=0
def tw11170560940769889409:=0
def tw4520140082843340291:=0
def tw12869416957815917958:=0
def tw14601605029646679568:=0
def tw2936831449777503423:=0
def tw9872683179952919331:=0
def tw5589858453887966866:=0
def tw5831840952116705366:=0
def tw15356439165095105739:=0
def tw173218265133226739:=0
def tw3557595473528582369:=0
def tw15843863112940943393:=0
def tw6642400090422783196:=0
def tw9626085554158540159:=0
def tw11584494732313215290:=0
def tw1503711153589735833:=0
def tw4112160274987487779:=0
def tw14708275994326721979:=0
def tw1943091361147726501:=0
def tw9768584991999844439:=0
def tw13032661925090109790:=0
def tw14480137670417177709:=0
def tw7057479144182120658:=0
def tw3679740668420634826:=0
def tw7923669670924261768:=0
def tw10038410334231944740:=0
def tw12393970995936516001:=0
def tw6065620966693293677:=0
def tw15900401641133100852:=0
def tw8698154306612040456:=0
def tw16935261458890305238:=0
def tw2148950709820670030:=0
def tw14212290070757002852:=0
def tw4791962411118300484:=0
def tw10945400838887303520:=0
def tw4893202206685384756:=0
def tw13782182631525568572:=0
def tw13335528953150226336:=0
def tw6076037744527983283:=0
def tw4284204432377233334:=0
def tw17785409195085566816:=0
def tw2157198294453501516:=0
def tw7000727595838909141:=0
def tw6515393518083714857:=0
def tw13987296155959639756:=0
def tw14665594193430040770:=0
def tw13302064844736073815:=0
def tw13235043604478984644:=0
def tw2651412270717566591:=0
def tw4668209604637866790:=0
def tw13578194348998182716:=0
def tw13679552534684943032:=0
def tw12569037482082449553:=0
def tw9283249862861684747:=0
def tw16914611542682781765:=0
def tw13274124651526838405:=0
def tw12478914121529125136:=0
def tw12820627504743758633:=0
def tw15832070160431495330:=0
def tw14933554744192603541:=0
def tw13304457498140647447:=0
def tw2718681890959203800:=0
def tw12546062049642347820:=0
def tw13080780364221682725:=0
def tw4883903689322461234:=0
def tw6965952856659106632:=0
def tw936756535841985666:=0
def tw17574313205728904283:=0
def tw14110856139748225514:=0
def tw15370748177918674717:=0
def tw18271609222546014900:=0
def tw2091950141404811339:=0
def tw5253987492607516831:=0
def tw13889465743875925192:=0
def tw10131203507751812302:=0
def tw9225833402484747971:=0
def tw3095927809612336065:=0
def tw16373765756487159150:=0
def tw4231426481481245123:=0
def tw13272186050100718331:=0
def tw1271978836085212465:=0
def tw2441655218255512790:=0
def tw17398610953307008126:=0
def tw18264108252140215835:=0
def tw9683889812655208294:=0
def tw17657916048033857542:=0
def tw17277207479329070547:=0
def tw16946354502055753178:=0
def tw9791600773715368462:=0
def tw17568683647470777994:=0
def tw16902203630558640448:=0
def tw169139229336811727:=0
def tw4956893010156630082:=0
def tw2106191008484259269:=0
def tw14616590919447094175:=0
def tw1056503522625295199:=0
def tw15457103934456313171:=0
def tw16029583327447137821:=0
def tw851166426937957544:=0
def tw5724768698807619499:=0
def tw12696809433905508316:=0
def tw6544313301949839067:=0
def tw15295520101010589491:=0
def tw5650943758105583026:=0
def tw3999940109974697451:=0
def tw6663599336565867990:=0
def tw13426194136199363874:=0
def tw9667919609462799123:=0
def tw17182074967735279266:=0
def tw970381963504182767:=0
def tw4400792864296953194:=0
def tw879085490529811393:=0
def tw1529982782054741683:=0
def tw1568966402885488866:=0
def tw14045630784247202739:=0
def tw5360633520566347974:=0
def tw7336212599549560214:=0
def tw15062806392041867162:=0
def tw13226943140839982431:=0
def tw10208066153446065866:=0
def tw2860143917333813586:=0
def tw16383267486572096109:=0
def tw5175671139252563148:=0
def tw13411856185941313058:=0
def tw8500688953298218675:=0
def tw3908275995370882654:=0
def tw11674295346815881373:=0
def tw10896266575181946875:=0
def tw10729258346330045920:=0
def tw9552120093918227615:=0
def tw3993839005068599538:=0
def tw4643643750942973446:=0
def tw12768332570835890880:=0
def tw8045189210621238965:=0
def tw13754500950816072878:=0
def tw6598382996176951594:=0
def tw15653071889831628610:=0
def tw14468018336960531166:=0
def tw9814533997683149599:=0
def tw7263236432055039537:=0
def tw16647257950598257898:=0
def tw1697888602258446817:=0
def tw13171200127185770309:=0
def tw18029192573318756229:=0
def tw18332490612538222140:=0
def tw652810298836024077:=0
def tw6041166863649243916:=0
def tw1089836535602302969:=0
def tw2680073216510529060:=0
def tw18120765775544704732:=0
def tw7577361765937073707:=0
def tw12198109720420625947:=0
def tw9147709675923321283:=0
def tw11340483630006093856:=0
def tw9273455333238504755:=0
def tw13859686173142326628:=0
def tw510629293753652300:=0
def tw12726829483420183506:=0
def tw17405760663564828080:=0
def tw975843783061780239:=0
def tw1270877067188561157:=0
def tw15024943355682358896:=0
def tw4350635117487607769:=0
def tw17911780275477906519:=0
def tw6202694462568272531:=0
def tw1398570047583034746:=0
def tw12982366412241729158:=0
def tw4657260103198871812:=0
def tw17101425915329678294:=0
def tw5005368288950138962:=0
def tw11883610131892630277:=0
def tw11654969750164068787:=0
def tw17928816647254786659:=0
def tw5263547543402306805:=0
def tw15586237525597132424:=0
def tw10416945431906975522:=0
def tw12764242981230115490:=0
def tw16245459844312455974:=0
def tw4890768814544280869:=0
def tw17611328526616701700:=0
def tw17825240339281766180:=0
def tw14890310292050806955:=0
def tw7519086137099960054:=0
def tw2814045666495919359:=0
def tw10518215962720842159:=0
def tw11138620058907317153:=0
def tw17543681271951213630:=0
def tw14242276375703984926:=0
def tw16758418073677612997:=0
def tw11066343640400509912:=0
def tw11190266392800663026:=0
def tw4997326278057427958:=0
def tw18066781545033303786:=0
def tw9036251528288213250:=0
def tw14461657079318290207:=0
def tw353205673448303457:=0
def tw1257746457073731923:=0
def tw3775247630601646642:=0
def tw4676694279292129717:=0
def tw3718943521572726066:=0
def tw17059866411639314389:=0
def tw6001066456131236773:=0
def tw15681436012437401358:=0
def tw6268631183221473649:=0
def tw15708057457833177682:=0
def tw10383172269947195783:=0
def tw273685790098947743:=0
def tw3700402272353432171:=0
def tw10892961177784688110:=0
def tw13302929212407640946:=0
def tw5313453374501303193:=0
def tw8431621286671995824:=0
def tw3222571284634290007:=0
def tw10523982596746082654:=0
def tw15083760328055309211:=0
def tw17632363858686452994:=0
def tw15182954998085519159:=0
def tw8310966869616658591:=0
def tw7869489121885691461:=0
def tw6652885079842683077:=0
def tw7188293061102147048:=0
def tw12772504170886536683:=0
def tw13422727064959515285:=0
def tw12926221126405448089:=0
def tw9345658258017773893:=0
def tw8013318127146560170:=0
def tw16649327593914835975:=0
def tw16655158996828044639:=0
def tw2283013261565266257:=0
def tw15060887739565547155:=0
def tw2631860073170971882:=0
def tw6998946612086761640:=0
def tw10900732936993908956:=0
def tw13027088438565590955:=0
def tw7982298623859775306:=0
def tw13402025726807804631:=0
def tw13487232610078658095:=0
def tw12475396252432503941:=0
def tw17931113038771309377:=0
def tw15823759324534277613:=0
def tw11456877673518714142:=0
def tw10295078315470295488:=0
def tw3245084559804390566:=0
def tw15017427968077098285:=0
def tw12865390723531770870:=0
def tw11883554085677650052:=0
def tw4390152552410047172:=0
def tw12396619920280253671:=0
end PySem.W.Fast
set_option autoImplicit false
set_option genSizeOf false
set_option genSizeOfSpec false
set_option bootstrap.genMatcherCode false
set_option compiler.extract_closed false
set_option linter.all false
set_option maxRecDepth 100000
namespace TS
open PySem PyProof.Rows
noncomputable def kk(κ:KeyKind)(p:Keyed):κ.α:=(κ.keyOf p.1).getD κ.dflt
noncomputable def Has(κ:KeyKind)(p:Keyed):Prop:=∃a,κ.keyOf p.1=some a
noncomputable def le(κ:KeyKind)(p q:Keyed):Prop:=κ.kle (kk κ p) (kk κ q)
noncomputable def Sor(κ:KeyKind)(l:List Keyed):Prop:=l.Pairwise (le κ)
structure Cmp(prog:Program)(w:World)(A:Around)(s:Shared)(κ:KeyKind)(kd:SortKind):Prop where
 lt:∀(x y:Value) (a b:κ.α) (Q:Bool->Shared->Prop) (E:Value->Shared->Prop),κ.keyOf x=some a->κ.keyOf y=some b->Q (κ.blt a b) s->wpAny (model prog w) A (keyLt' kd x y) Q E s
section
variable{prog:Program}{w:World}{A:Around}{E:Value->Shared->Prop}{s:Shared}{κ:KeyKind}{kd:SortKind}
theorem Bw(C:Cmp prog w A s κ kd){st:SortSt}{x y:Keyed}{Q:Option Bool->SortSt->Prop}(hk:kindOf st=kd)(hx:Has κ x)(hy:Has κ y)
  (h:Q (some (κ.blt (kk κ x) (kk κ y))) st):wpS (model prog w) A E s (lt' x y) Q st:=by
 obtain⟨a,ha⟩:=hx
 obtain⟨b,hb⟩:=hy
 have e1:kk κ x=a:=by unfold kk;rw[ha];rfl
 have e2:kk κ y=b:=by unfold kk;rw[hb];rfl
 rw[e1,e2]at h
 rw[lt'_eq]
 refine wpS_bind (wpS_get ?_)
 rw[hk]
 refine wpS_bind (wpS_lift (wpAny_attempt (C.lt x.1 y.1 a b _ _ ha hb ⟨rfl,?_⟩)))
 exact wpS_pure h
theorem C3{st:SortSt}{arr:Array Keyed}{i:Nat}{p:Keyed}{Q:Keyed->SortSt->Prop}(hi:arr[i]?=some p)(h:Q p st):wpS (model prog w) A E s (elem' arr i) Q st:=by
 rw[elem'_eq,hi];exact wpS_pure h
noncomputable def N9:Bool->Keyed->Array Keyed->Nat->Nat->Nat->StateT SortSt Sem (Option Nat):=sortPriv% PySem.Builtin.gallop
noncomputable def bey(left:Bool)(ky:Keyed)(ar:Array Keyed)(bs:Nat)(i:Nat):StateT SortSt Sem (Option Bool):=do
 let x <-elem' ar (bs+i)
 if left then lt' x ky else return(<-lt' ky x).map (!·)
theorem Ir(left:Bool)(ky:Keyed)(ar:Array Keyed)(bs n ht:Nat):N9 left ky ar bs n ht =(do
  let mut la:=0
  let mut of:=1
  let mut lo:=0
  let mut hi:=0
  let some ri <-bey left ky ar bs ht | return none
  if ri then
   let mx:=n-ht
   for _ in [0:n] do
    if of ≥ mx then break
    let some mo <-bey left ky ar bs (ht+of) | return none
    if !mo then break
    la:=of
    of:=2*of+1
   lo:=ht+la+1
   hi:=ht+min of mx
  else
   let mx:=ht+1
   for _ in [0:n] do
    if of ≥ mx then break
    let some fo <-bey left ky ar bs (ht-of) | return none
    if fo then break
    la:=of
    of:=2*of+1
   lo:=ht+1-min of mx
   hi:=ht-la
  for _ in [0:n] do
   if lo ≥ hi then break
   let m:=lo +(hi-lo) / 2
   let some mo <-bey left ky ar bs m | return none
   if mo then lo:=m+1 else hi:=m
  return some hi):=rfl
noncomputable def PB(κ:KeyKind)(left:Bool)(ky:Keyed)(p:Keyed):Bool:=if left then κ.blt (kk κ p) (kk κ ky)else !κ.blt (kk κ ky) (kk κ p)
theorem Su(C:Cmp prog w A s κ kd){st:SortSt}{left:Bool}{ky p:Keyed}{ar:Array Keyed}{bs i:Nat}{Q:Option Bool->SortSt->Prop}(hk:kindOf st=kd)(hky:Has κ ky)(hp:Has κ p)(hi:ar[bs+i]?=some p)
  (h:Q (some (PB κ left ky p)) st):wpS (model prog w) A E s (bey left ky ar bs i) Q st:=by
 unfold bey
 refine wpS_bind (C3 hi ?_)
 cases left with
 | true=>exact Bw C hk hp hky h
 | false =>
  simp only[Bool.false_eq_true,if_false]
  refine wpS_bind (Bw C hk hky hp ?_)
  exact wpS_pure h
theorem Ih(C:Cmp prog w A s κ kd){st:SortSt}{left:Bool}{ky:Keyed}{ar:Array Keyed}{bs n ht:Nat}{Q:Option Nat->SortSt->Prop}(hk:kindOf st=kd)(hky:Has κ ky)
  (P:Nat->Bool) (hP:∀i,i<n->∃p,ar[bs+i]?=some p/\Has κ p/\PB κ left ky p=P i) (mono:∀i j,i<=j->j<n->P j=true->P i=true) (hht:ht<n)
  (h:∀k,k<=n->(∀i,i<k->P i=true)->(∀i,k<=i->i<n->P i=false)->Q (some k) st):wpS (model prog w) A E s (N9 left ky ar bs n ht) Q st:=by
 have B:∀{st':SortSt} {i:Nat} {Q:Option Bool->SortSt->Prop},st'=st->i<n->Q (some (P i)) st'->wpS (model prog w) A E s (bey left ky ar bs i) Q st':=by
  intro st' i Q e hi q
  subst e
  obtain⟨p,h1,h2,h3⟩:=hP i hi
  exact Su C hk hky h2 h1 (by rw[h3];exact q)
 have nmono:∀i j,i<=j->j<n->P i=false->P j=false:=by
  intro i j hij hj hi
  cases e:P j with
  | false=>rfl
  | true=>rw[mono i j hij hj e]at hi;cases hi
 rw[Ir]
 dsimp only
 refine wpS_bind (B rfl hht ?_)
 dsimp only
 have S:∀{lo hi:Nat} {f:Nat->(Option (Option Nat)×Nat×Nat)->StateT SortSt Sem (ForInStep (Option (Option Nat)×Nat×Nat))},
   (∀x l h,wpS (model prog w) A E s (f x (none,l,h)) (fun r st'=>st'=st/\(if h<=l then r = .done (none,l,h)else if P (l +(h-l) / 2)=true then r = .yield (none,l +(h-l) / 2+1,h)else r = .yield (none,l,l +(h-l) / 2))) st\/¬(h<=l\/l +(h-l) / 2<n)) ->
   lo<=hi->hi<=n->(∀i,i<lo->P i=true)->(∀i,hi<=i->i<n->P i=false) ->
   wpS (model prog w) A E s (forIn [0:n] (none,lo,hi) f) (fun c st'=>st'=st/\∃k,c =(none,k,k)/\k<=n/\(∀i,i<k->P i=true)/\(∀i,k<=i->i<n->P i=false)) st:=by
  intro lo hi f hf h1 h2 h3 h4
  refine wpS_forRange (I:=fun x c st'=>st'=st/\∃l r,c =(none,l,r)/\l<=r/\r<=n/\r-l<=n-x/\(∀i,i<l->P i=true)/\(∀i,r<=i->i<n->P i=false)) ?_ ?_ ⟨rfl,lo,hi,rfl,h1,h2,by omega,h3,h4⟩
  ·rintro x c st' _ hx ⟨rfl,l,r,rfl,hl,hr,hm,ha,hb⟩
   have hin:r<=l\/l +(r-l) / 2<n:=by omega
   rcases hf x l r with q | q
   ·refine wpS_mono q fun z st2 ⟨e,q2⟩=>?_
    subst e
    by_cases hge:r<=l
    ·rw[if_pos hge]at q2
     subst q2
     have:l=r:=by omega
     subst this
     exact⟨rfl,l,rfl,hr,ha,hb⟩
    ·rw[if_neg hge]at q2
     cases hp:P (l +(r-l) / 2)with
     | true =>
      rw[if_pos hp]at q2
      subst q2
      exact⟨rfl,_,_,rfl,by omega,by omega,by omega,fun i hi=>mono i (l +(r-l) / 2) (by omega) (by omega) hp,hb⟩
     | false =>
      rw[if_neg (by rw[hp];exact Bool.false_ne_true)]at q2
      subst q2
      exact⟨rfl,_,_,rfl,by omega,by omega,by omega,ha,fun i hi1 hi2=>nmono (l +(r-l) / 2) i hi1 hi2 hp⟩
   ·exact absurd hin q
  ·rintro c st' ⟨rfl,l,r,rfl,hl,hr,hm,ha,hb⟩
   have:l=r:=by omega
   subst this
   exact⟨rfl,l,rfl,hr,ha,hb⟩
 cases hr:P ht with
 | true =>
  rw[if_pos rfl]
  refine wpS_bind (wpS_mono (wpS_forRange (I:=fun x c st'=>st'=st/\∃la of,c =(none,la,of)/\la<of/\x+1<=of/\ht+la<n/\P (ht+la)=true)
   (Q:=fun c st'=>st'=st/\∃la of,c =(none,la,of)/\la<of/\ht+la<n/\P (ht+la)=true/\(n-ht<=of\/(ht+of<n/\P (ht+of)=false))) ?st ?en ⟨rfl,0,1,rfl,by omega,by omega,by omega,hr⟩) ?po)
  case en =>
   rintro c st' ⟨rfl,la,of,rfl,a1,a2,a3,a4⟩
   exact⟨rfl,la,of,rfl,a1,a3,a4,.inl (by omega)⟩
  case st =>
   rintro x c st' _ hx ⟨rfl,la,of,rfl,a1,a2,a3,a4⟩
   dsimp only
   by_cases hge:of ≥ n-ht
   ·rw[if_pos hge]
    exact wpS_pure ⟨rfl,la,of,rfl,a1,a3,a4,.inl hge⟩
   ·rw[if_neg hge]
    refine wpS_bind (B rfl (show ht+of<n by omega) ?_)
    cases hp:P (ht+of)with
    | true=>exact wpS_pure ⟨rfl,of,2*of+1,rfl,by omega,by omega,by omega,hp⟩
    | false=>exact wpS_pure ⟨rfl,la,of,rfl,a1,a3,a4,.inr ⟨by omega,hp⟩⟩
  case po =>
   rintro c st' ⟨rfl,la,of,rfl,a1,a3,a4,a5⟩
   dsimp only
   refine wpS_bind (wpS_mono (S (lo:=ht+la+1) (hi:=ht+min of (n-ht)) (fun x l h'=>by
    dsimp only
    by_cases hge:h'<=l
    ·refine .inl ?_
     rw[if_pos hge]
     exact wpS_pure ⟨rfl,by rw[if_pos hge]⟩
    ·by_cases hn:l +(h' - l) / 2<n
     ·refine .inl ?_
      rw[if_neg hge]
      refine wpS_bind (B rfl hn ?_)
      dsimp only
      cases hp:P (l +(h' - l) / 2)with
      | true =>
       simp only[if_true]
       exact wpS_pure ⟨rfl,by rw[if_neg hge]⟩
      | false =>
       simp only[Bool.false_eq_true,if_false]
       exact wpS_pure ⟨rfl,by rw[if_neg hge]⟩
     ·exact .inr (by omega)) (by omega) (by omega) (fun i hi=>mono i (ht+la) (by omega) a3 a4) fun i hi1 hi2=>?_) fun c st' ⟨e,k,e2,b1,b2,b3⟩=>?_)
   ·rcases a5 with a5 | ⟨a5,a6⟩
    ·omega
    ·exact nmono (ht+of) i (by omega) hi2 a6
   ·subst e e2
    exact wpS_pure (h k b1 b2 b3)
 | false =>
  rw[if_neg Bool.false_ne_true]
  refine wpS_bind (wpS_mono (wpS_forRange (I:=fun x c st'=>st'=st/\∃la of,c =(none,la,of)/\la<of/\x+1<=of/\la<=ht/\P (ht-la)=false)
   (Q:=fun c st'=>st'=st/\∃la of,c =(none,la,of)/\la<of/\la<=ht/\P (ht-la)=false/\(ht+1<=of\/(of<=ht/\P (ht-of)=true))) ?st ?en ⟨rfl,0,1,rfl,by omega,by omega,by omega,hr⟩) ?po)
  case en =>
   rintro c st' ⟨rfl,la,of,rfl,a1,a2,a3,a4⟩
   exact⟨rfl,la,of,rfl,a1,a3,a4,.inl (by omega)⟩
  case st =>
   rintro x c st' _ hx ⟨rfl,la,of,rfl,a1,a2,a3,a4⟩
   dsimp only
   by_cases hge:of ≥ ht+1
   ·rw[if_pos hge]
    exact wpS_pure ⟨rfl,la,of,rfl,a1,a3,a4,.inl hge⟩
   ·rw[if_neg hge]
    refine wpS_bind (B rfl (show ht-of<n by omega) ?_)
    cases hp:P (ht-of)with
    | false=>exact wpS_pure ⟨rfl,of,2*of+1,rfl,by omega,by omega,by omega,hp⟩
    | true=>exact wpS_pure ⟨rfl,la,of,rfl,a1,a3,a4,.inr ⟨by omega,hp⟩⟩
  case po =>
   rintro c st' ⟨rfl,la,of,rfl,a1,a3,a4,a5⟩
   dsimp only
   refine wpS_bind (wpS_mono (S (lo:=ht+1-min of (ht+1)) (hi:=ht-la) (fun x l h'=>by
    dsimp only
    by_cases hge:h'<=l
    ·refine .inl ?_
     rw[if_pos hge]
     exact wpS_pure ⟨rfl,by rw[if_pos hge]⟩
    ·by_cases hn:l +(h' - l) / 2<n
     ·refine .inl ?_
      rw[if_neg hge]
      refine wpS_bind (B rfl hn ?_)
      dsimp only
      cases hp:P (l +(h' - l) / 2)with
      | true =>
       simp only[if_true]
       exact wpS_pure ⟨rfl,by rw[if_neg hge]⟩
      | false =>
       simp only[Bool.false_eq_true,if_false]
       exact wpS_pure ⟨rfl,by rw[if_neg hge]⟩
     ·exact .inr (by omega)) (by omega) (by omega) (fun i hi=>?_) fun i hi1 hi2=>nmono (ht-la) i (by omega) hi2 a4) fun c st' ⟨e,k,e2,b1,b2,b3⟩=>?_)
   ·rcases a5 with a5 | ⟨a5,a6⟩
    ·omega
    ·exact mono i (ht-of) (by omega) (by omega) a6
   ·subst e e2
    exact wpS_pure (h k b1 b2 b3)
end
section
variable{κ:KeyKind}
theorem le_refl(p:Keyed):le κ p p:=KeyOrd.kle_refl _
theorem le_trans{p q r:Keyed}(h1:le κ p q)(h2:le κ q r):le κ p r:=KeyOrd.kle_trans h1 h2
structure ML(κ:KeyKind)(a b:List Keyed)(o:List Keyed)(i j:Nat):Prop where
 perm:o.Perm (a.take i++b.take j)
 sor:Sor κ o
 la:∀x∈o,∀y∈a.drop i,le κ x y
 lb:∀x∈o,∀y∈b.drop j,le κ x y
theorem ML.sym{a b o:List Keyed}{i j:Nat}(m:ML κ a b o i j):ML κ b a o j i:=⟨m.perm.trans List.perm_append_comm,m.sor,m.lb,m.la⟩
theorem Dw{l:List Keyed}(k:Nat)(h:Sor κ l):∀x∈l.take k,∀y∈l.drop k,le κ x y:=by
 have h':Sor κ (l.take k++l.drop k):=by rw[List.take_append_drop];exact h
 exact(List.pairwise_append.mp h').2.2
theorem ML.addA{a b o:List Keyed}{i j:Nat}(m:ML κ a b o i j)(sa:Sor κ a)(k:Nat)(hk:∀y∈(a.drop i).take k,∀z∈b.drop j,le κ y z):ML κ a b (o ++(a.drop i).take k) (i+k) j:=by
 have hs:Sor κ (a.drop i):=sa.sublist (List.drop_sublist _ _)
 refine⟨?_,?_,fun x hx y hy=>?_,fun x hx y hy=>?_⟩
 ·rw[List.take_add]
  refine(List.Perm.append_right _ m.perm).trans ?_
  rw[List.append_assoc,List.append_assoc]
  exact List.Perm.append_left _ List.perm_append_comm
 ·refine List.pairwise_append.mpr ⟨m.sor,hs.sublist (List.take_sublist _ _),fun x hx y hy=>m.la x hx y (List.mem_of_mem_take hy)⟩
 ·rw[<-List.drop_drop]at hy
  rcases List.mem_append.mp hx with hx | hx
  ·exact m.la x hx y (List.mem_of_mem_drop hy)
  ·exact Dw k hs x hx y hy
 ·rcases List.mem_append.mp hx with hx | hx
  ·exact m.lb x hx y hy
  ·exact hk x hx y hy
theorem ML.addB{a b o:List Keyed}{i j:Nat}(m:ML κ a b o i j)(sb:Sor κ b)(k:Nat)(hk:∀y∈(b.drop j).take k,∀z∈a.drop i,le κ y z):ML κ a b (o ++(b.drop j).take k) i (j+k) :=
 (m.sym.addA sb k hk).sym
theorem ML.endA{a b o:List Keyed}{i j:Nat}(m:ML κ a b o i j)(sa:Sor κ a)(sb:Sor κ b)(h:∀y∈a.drop i,∀z∈b.drop j,le κ y z):Sor κ (o++a.drop i++b.drop j)/\(o++a.drop i++b.drop j).Perm (a++b):=by
 refine⟨?_,?_⟩
 ·refine List.pairwise_append.mpr ⟨List.pairwise_append.mpr ⟨m.sor,sa.sublist (List.drop_sublist _ _),m.la⟩,sb.sublist (List.drop_sublist _ _),fun x hx y hy=>?_⟩
  rcases List.mem_append.mp hx with hx | hx
  ·exact m.lb x hx y hy
  ·exact h x hx y hy
 ·have h1:(o++a.drop i++b.drop j).Perm ((a.take i++b.take j)++a.drop i++b.drop j):=List.Perm.append_right _ (List.Perm.append_right _ m.perm)
  refine h1.trans ?_
  have h2:((a.take i++b.take j)++a.drop i++b.drop j).Perm ((a.take i++a.drop i) ++(b.take j++b.drop j)):=by
   rw[List.append_assoc,List.append_assoc,List.append_assoc]
   refine List.Perm.append_left _ ?_
   rw[<-List.append_assoc,<-List.append_assoc]
   exact List.Perm.append_right _ List.perm_append_comm
  rw[List.take_append_drop,List.take_append_drop]at h2
  exact h2
theorem ML.endB{a b o:List Keyed}{i j:Nat}(m:ML κ a b o i j)(sa:Sor κ a)(sb:Sor κ b)(h:∀y∈b.drop j,∀z∈a.drop i,le κ y z):Sor κ (o++b.drop j++a.drop i)/\(o++b.drop j++a.drop i).Perm (a++b) :=
 ⟨(m.sym.endA sb sa h).1,(m.sym.endA sb sa h).2.trans List.perm_append_comm⟩
structure MH(κ:KeyKind)(a b:List Keyed)(o:List Keyed)(i j:Nat):Prop where
 perm:o.Perm (a.drop i++b.drop j)
 sor:Sor κ o
 la:∀x∈o,∀y∈a.take i,le κ y x
 lb:∀x∈o,∀y∈b.take j,le κ y x
theorem MH.sym{a b o:List Keyed}{i j:Nat}(m:MH κ a b o i j):MH κ b a o j i:=⟨m.perm.trans List.perm_append_comm,m.sor,m.lb,m.la⟩
theorem MH.addA{a b o:List Keyed}{i j:Nat}(m:MH κ a b o i j)(sa:Sor κ a)(k:Nat)(hki:k<=i)(hk:∀y∈(a.take i).drop k,∀z∈b.take j,le κ z y):MH κ a b ((a.take i).drop k++o) k j:=by
 have hs:Sor κ (a.take i):=sa.sublist (List.take_sublist _ _)
 have e:a.drop k =(a.take i).drop k++a.drop i:=by
  conv=>lhs;rw[<-List.take_append_drop i a]
  rw[List.drop_append]
  by_cases hl:i<=a.length
  ·rw[List.length_take,Nat.min_eq_left hl,Nat.sub_eq_zero_of_le hki,List.drop_zero]
  ·have:a.drop i = []:=List.drop_eq_nil_of_le (by lia)
   rw[this,List.drop_nil]
 have e2:(a.take i).take k=a.take k:=by rw[List.take_take,Nat.min_eq_left hki]
 refine⟨?_,?_,fun x hx y hy=>?_,fun x hx y hy=>?_⟩
 ·rw[e,List.append_assoc]
  exact List.Perm.append_left _ m.perm
 ·exact List.pairwise_append.mpr ⟨hs.sublist (List.drop_sublist _ _),m.sor,fun x hx y hy=>m.la y hy x (List.mem_of_mem_drop hx)⟩
 ·rw[<-e2]at hy
  rcases List.mem_append.mp hx with hx | hx
  ·exact Dw k hs y hy x hx
  ·exact m.la x hx y (List.mem_of_mem_take hy)
 ·rcases List.mem_append.mp hx with hx | hx
  ·exact hk x hx y hy
  ·exact m.lb x hx y hy
theorem MH.addB{a b o:List Keyed}{i j:Nat}(m:MH κ a b o i j)(sb:Sor κ b)(k:Nat)(hkj:k<=j)(hk:∀y∈(b.take j).drop k,∀z∈a.take i,le κ z y):MH κ a b ((b.take j).drop k++o) i k :=
 (m.sym.addA sb k hkj hk).sym
theorem MH.endA{a b o:List Keyed}{i j:Nat}(m:MH κ a b o i j)(sa:Sor κ a)(sb:Sor κ b)(h:∀y∈a.take i,∀z∈b.take j,le κ y z):Sor κ (a.take i++b.take j++o)/\(a.take i++b.take j++o).Perm (a++b):=by
 refine⟨?_,?_⟩
 ·refine List.pairwise_append.mpr ⟨List.pairwise_append.mpr ⟨sa.sublist (List.take_sublist _ _),sb.sublist (List.take_sublist _ _),h⟩,m.sor,fun x hx y hy=>?_⟩
  rcases List.mem_append.mp hx with hx | hx
  ·exact m.la y hy x hx
  ·exact m.lb y hy x hx
 ·have h1:(a.take i++b.take j++o).Perm (a.take i++b.take j ++(a.drop i++b.drop j)):=List.Perm.append_left _ m.perm
  refine h1.trans ?_
  have h2:(a.take i++b.take j ++(a.drop i++b.drop j)).Perm ((a.take i++a.drop i) ++(b.take j++b.drop j)):=by
   rw[List.append_assoc,List.append_assoc]
   refine List.Perm.append_left _ ?_
   rw[<-List.append_assoc,<-List.append_assoc]
   exact List.Perm.append_right _ List.perm_append_comm
  rw[List.take_append_drop,List.take_append_drop]at h2
  exact h2
theorem MH.endB{a b o:List Keyed}{i j:Nat}(m:MH κ a b o i j)(sa:Sor κ a)(sb:Sor κ b)(h:∀y∈b.take j,∀z∈a.take i,le κ y z):Sor κ (b.take j++a.take i++o)/\(b.take j++a.take i++o).Perm (a++b) :=
 ⟨(m.sym.endA sb sa h).1,(m.sym.endA sb sa h).2.trans List.perm_append_comm⟩
end
section
variable{prog:Program}{w:World}{A:Around}{E:Value->Shared->Prop}{s:Shared}{κ:KeyKind}{kd:SortKind}
noncomputable def p8(g:Nat):StateT SortSt Sem Unit:=modify fun s=>SortSt.mk' (kindOf s) (arrOf s) (pendingOf s) g (failedOf s)
noncomputable def Aq:Array Keyed->Array Keyed->StateT SortSt Sem (Array Keyed):=sortPriv% PySem.Builtin.mergeLo
theorem Fj(a b:Array Keyed):Aq a b =(do
  rule "list.sort.merge-lo"
  let tot:=a.size+b.size
  let dn (o:Array Keyed) (i j:Nat):=o++a.extract i a.size++b.extract j b.size
  let lA (o:Array Keyed) (i j:Nat):=o++b.extract j b.size++a.extract i a.size
  let mut o:Array Keyed:=#[<-elem' b 0]
  let mut i:=0
  let mut j:=1
  if j == b.size then return dn o i j
  if i+1 == a.size then return lA o i j
  let mut mg:=gallopOf (<-get)
  for _ in [0:tot] do
   let mut ac:=0
   let mut bc:=0
   for _ in [0:tot] do
    let some bw <-lt' (<-elem' b j) (<-elem' a i) | return dn o i j
    if bw then
     o:=o.push (<-elem' b j);j:=j+1;bc:=bc+1;ac:=0
     if j == b.size then return dn o i j
     if bc ≥ mg then break
    else
     o:=o.push (<-elem' a i);i:=i+1;ac:=ac+1;bc:=0
     if i+1 == a.size then return lA o i j
     if ac ≥ mg then break
   rule "list.sort.gallop"
   mg:=mg+1
   for _ in [0:tot] do
    if mg>1 then mg:=mg-1
    p8 mg
    let some k <-N9 false (<-elem' b j) a i (a.size-i) 0 | return dn o i j
    ac:=k
    if k>0 then
     o:=o++a.extract i (i+k);i:=i+k
     if i+1 == a.size then return lA o i j
     if i == a.size then return dn o i j
    o:=o.push (<-elem' b j);j:=j+1
    if j == b.size then return dn o i j
    let some k <-N9 true (<-elem' a i) b j (b.size-j) 0 | return dn o i j
    bc:=k
    if k>0 then
     o:=o++b.extract j (j+k);j:=j+k
     if j == b.size then return dn o i j
    o:=o.push (<-elem' a i);i:=i+1
    if i+1 == a.size then return lA o i j
    if ac<7&&bc<7 then break
   mg:=mg+1
   p8 mg
  unsupported "internal:list.sort.merge-bound"):=rfl
noncomputable def Sm(st st':SortSt):Prop:=kindOf st'=kindOf st/\arrOf st'=arrOf st/\pendingOf st'=pendingOf st/\failedOf st'=failedOf st
theorem Sm.refl(st:SortSt):Sm st st:=⟨rfl,rfl,rfl,rfl⟩
theorem R8{st st0:SortSt}{g:Nat}{Q:Unit->SortSt->Prop}(hs:Sm st0 st)(h:∀st',Sm st0 st'->Q () st'):wpS (model prog w) A E s (p8 g) Q st :=
 wpS_modify (h _ ⟨hs.1,hs.2.1,hs.2.2.1,hs.2.2.2⟩)
theorem Aa{l:List Keyed}{i k:Nat}{y:Keyed}(h:y∈(l.drop i).take k):∃t,t<k/\l[i+t]?=some y:=by
 obtain⟨t,ht,e⟩:=List.mem_iff_getElem.mp h
 rw[List.length_take,List.length_drop]at ht
 refine⟨t,by lia,?_⟩
 rw[List.getElem_take,List.getElem_drop]at e
 rw[<-e]
 exact List.getElem?_eq_getElem (by lia)
theorem Ez{l:List Keyed}{i:Nat}{y:Keyed}(h:y∈l.drop i):∃t,i+t<l.length/\l[i+t]?=some y:=by
 obtain⟨t,ht,e⟩:=List.mem_iff_getElem.mp h
 rw[List.length_drop]at ht
 refine⟨t,by lia,?_⟩
 rw[List.getElem_drop]at e
 rw[<-e]
 exact List.getElem?_eq_getElem (by lia)
theorem Jc{l:List Keyed}{i:Nat}{y:Keyed}(h:y∈l.take i):∃t,t<i/\t<l.length/\l[t]?=some y:=by
 obtain⟨t,ht,e⟩:=List.mem_iff_getElem.mp h
 rw[List.length_take]at ht
 refine⟨t,by lia,by lia,?_⟩
 rw[List.getElem_take]at e
 rw[<-e]
 exact List.getElem?_eq_getElem (by lia)
theorem Qd{l:List Keyed}{i k:Nat}{y:Keyed}(h:y∈(l.take i).drop k):∃t,k<=t/\t<i/\l[t]?=some y:=by
 obtain⟨t,h1,h2⟩:=Ez h
 rw[List.length_take]at h1
 rw[List.getElem?_take_of_lt (by lia)]at h2
 exact⟨k+t,by lia,by lia,h2⟩
theorem X8{l:List Keyed}(h:Sor κ l){i j:Nat}{p q:Keyed}(hij:i<=j)(hp:l[i]?=some p)(hq:l[j]?=some q):le κ p q:=by
 obtain⟨h1,rfl⟩:=List.getElem?_eq_some_iff.mp hp
 obtain⟨h2,rfl⟩:=List.getElem?_eq_some_iff.mp hq
 rcases Nat.lt_or_eq_of_le hij with z | z
 ·exact List.pairwise_iff_getElem.mp h i j h1 h2 z
 ·subst z;exact le_refl _
theorem Ax{l:List Keyed}(h:Sor κ l){i:Nat}{p:Keyed}(hp:l[i]?=some p):∀z∈l.drop i,le κ p z:=fun z hz=>by
 obtain⟨t,_,e⟩:=Ez hz
 exact X8 h (Nat.le_add_right _ _) hp e
theorem ar_get{a:Array Keyed}{i:Nat}{p:Keyed}:a[i]?=some p↔a.toList[i]?=some p:=by rw[Array.getElem?_toList]
theorem T3{a:Array Keyed}{i:Nat}(h:i<a.size):∃p,a[i]?=some p:=⟨a[i],getElem?_pos a i h⟩
theorem Mr{l:List Keyed}{i:Nat}{p:Keyed}(h:l[i]?=some p):(l.drop i).take 1 = [p]:=by
 obtain⟨h1,rfl⟩:=List.getElem?_eq_some_iff.mp h
 rw[List.drop_eq_getElem_cons h1]
 rfl
theorem Bn(a:Array Keyed)(i k:Nat):(a.extract i (i+k)).toList =(a.toList.drop i).take k:=by
 rw[Array.toList_extract,List.extract_eq_take_drop,Nat.add_sub_cancel_left]
theorem W8(a:Array Keyed)(i:Nat):(a.extract i a.size).toList=a.toList.drop i:=by
 rw[Array.toList_extract,List.extract_eq_take_drop,List.take_of_length_le]
 rw[List.length_drop,Array.length_toList]
 exact Nat.le_refl _
theorem X2(a:Array Keyed)(i:Nat):(a.extract 0 i).toList=a.toList.take i:=by
 rw[Array.toList_extract,List.extract_eq_take_drop,List.drop_zero,Nat.sub_zero]
noncomputable def Rm(κ:KeyKind)(a b r:Array Keyed):Prop:=Sor κ r.toList/\r.toList.Perm (a.toList++b.toList)
structure Pre(κ:KeyKind)(a b:Array Keyed):Prop where
 sa:Sor κ a.toList
 sb:Sor κ b.toList
 ka:∀(i:Nat) p,a[i]?=some p->Has κ p
 kb:∀(i:Nat) p,b[i]?=some p->Has κ p
 na:1<=a.size
 nb:1<=b.size
 first:∀q,b[0]?=some q->∀z∈a.toList,le κ q z
 last:∀p,a[a.size-1]?=some p->∀z∈b.toList,le κ z p
section
variable{a b o:Array Keyed}{i j k:Nat}{p q:Keyed}
theorem Pre.pushB(P:Pre κ a b)(m:ML κ a.toList b.toList o.toList i j)(hq:b[j]?=some q)(h:∀z∈a.toList.drop i,le κ q z):ML κ a.toList b.toList (o.push q).toList i (j+1):=by
 have h1:=m.addB P.sb 1 (by rw[Mr (ar_get.mp hq)];intro y hy;rw[List.mem_singleton.mp hy];exact h)
 rw[Mr (ar_get.mp hq)]at h1
 rw[Array.toList_push]
 exact h1
theorem Pre.pushA(P:Pre κ a b)(m:ML κ a.toList b.toList o.toList i j)(hp:a[i]?=some p)(h:∀z∈b.toList.drop j,le κ p z):ML κ a.toList b.toList (o.push p).toList (i+1) j:=by
 have h1:=m.addA P.sa 1 (by rw[Mr (ar_get.mp hp)];intro y hy;rw[List.mem_singleton.mp hy];exact h)
 rw[Mr (ar_get.mp hp)]at h1
 rw[Array.toList_push]
 exact h1
theorem Pre.extA(P:Pre κ a b)(m:ML κ a.toList b.toList o.toList i j)(h:∀y∈(a.toList.drop i).take k,∀z∈b.toList.drop j,le κ y z):ML κ a.toList b.toList (o++a.extract i (i+k)).toList (i+k) j:=by
 rw[Array.toList_append,Bn]
 exact m.addA P.sa k h
theorem Pre.extB(P:Pre κ a b)(m:ML κ a.toList b.toList o.toList i j)(h:∀y∈(b.toList.drop j).take k,∀z∈a.toList.drop i,le κ y z):ML κ a.toList b.toList (o++b.extract j (j+k)).toList i (j+k):=by
 rw[Array.toList_append,Bn]
 exact m.addB P.sb k h
theorem Pre.doneB(P:Pre κ a b)(m:ML κ a.toList b.toList o.toList i j)(hj:j=b.size):Rm κ a b (o++a.extract i a.size++b.extract j b.size):=by
 unfold Rm
 rw[Array.toList_append,Array.toList_append,W8,W8]
 refine m.endA P.sa P.sb fun y _ z hz=>?_
 rw[List.drop_eq_nil_of_le (by rw[Array.length_toList];lia)]at hz
 exact absurd hz (by simp)
theorem Pre.doneA(P:Pre κ a b)(m:ML κ a.toList b.toList o.toList i j)(hi:i=a.size):Rm κ a b (o++a.extract i a.size++b.extract j b.size):=by
 unfold Rm
 rw[Array.toList_append,Array.toList_append,W8,W8]
 refine m.endA P.sa P.sb fun y hy z _=>?_
 rw[List.drop_eq_nil_of_le (by rw[Array.length_toList];lia)]at hy
 exact absurd hy (by simp)
theorem Pre.lastA(P:Pre κ a b)(m:ML κ a.toList b.toList o.toList i j)(hi:i+1=a.size):Rm κ a b (o++b.extract j b.size++a.extract i a.size):=by
 unfold Rm
 rw[Array.toList_append,Array.toList_append,W8,W8]
 refine m.endB P.sa P.sb fun y hy z hz=>?_
 obtain⟨t,h1,h2⟩:=Ez hz
 rw[Array.length_toList]at h1
 have e:i+t=a.size-1:=by lia
 rw[e]at h2
 exact P.last z (ar_get.mpr h2) y (List.mem_of_mem_drop hy)
end
theorem Sm.knd{st st':SortSt}(h:Sm st st'){k:SortKind}(hk:kindOf st=k):kindOf st'=k:=h.1.trans hk
theorem X0(C:Cmp prog w A s κ kd){st:SortSt}{left:Bool}{ky:Keyed}{ar:Array Keyed}{bs n ht:Nat}{Q:Option Nat->SortSt->Prop}(hk:kindOf st=kd)(hky:Has κ ky)
  (hsz:bs+n<=ar.size) (hh:∀(i:Nat) p,ar[i]?=some p->Has κ p) (hs:∀(u v:Nat) p q,u<=v->v<n->ar[bs+u]?=some p->ar[bs+v]?=some q->le κ p q) (hht:ht<n)
  (h:∀k,k<=n->(∀(t:Nat) p,t<k->ar[bs+t]?=some p->PB κ left ky p=true)->(∀(t:Nat) p,k<=t->t<n->ar[bs+t]?=some p->PB κ left ky p=false)->Q (some k) st) :
  wpS (model prog w) A E s (N9 left ky ar bs n ht) Q st:=by
 have key:∀t,t<n->∃p,ar[bs+t]?=some p:=fun t ht=>T3 (by lia)
 refine Ih C hk hky (fun t=>match ar[bs+t]? with | some p=>PB κ left ky p | none=>false) (fun i hi=>?_) (fun i j hij hj hp=>?_) hht fun k hk1 h1 h2=>?_
 ·obtain⟨p,hp⟩:=key i hi
  exact⟨p,hp,hh _ p hp,by rw[hp]⟩
 ·obtain⟨p,e1⟩:=key i (by lia)
  obtain⟨q,e2⟩:=key j hj
  rw[e2]at hp
  rw[e1]
  have l:=hs i j p q hij hj e1 e2
  dsimp only at hp⊢
  unfold PB at hp⊢
  cases left with
  | true =>
   simp only[if_true]at hp⊢
   exact KeyOrd.klt_of_kle_of_klt l hp
  | false =>
   simp only[Bool.false_eq_true,if_false,Bool.not_eq_true']at hp⊢
   exact KeyOrd.kle_trans l hp
 ·refine h k hk1 (fun t p ht hp=>?_) fun t p ht1 ht2 hp=>?_
  ·have:=h1 t ht
   rw[hp]at this
   exact this
  ·have:=h2 t ht1 ht2
   rw[hp]at this
   exact this
theorem Aw{ky p:Keyed}(h:PB κ false ky p=true):le κ p ky:=by
 unfold PB at h
 show κ.blt (kk κ ky) (kk κ p)=false
 simpa using h
theorem t7{ky p:Keyed}(h:PB κ false ky p=false):κ.klt (kk κ ky) (kk κ p):=by
 unfold PB at h
 show κ.blt (kk κ ky) (kk κ p)=true
 simpa using h
theorem En{ky p:Keyed}(h:PB κ true ky p=true):κ.klt (kk κ p) (kk κ ky):=by
 unfold PB at h
 show κ.blt (kk κ p) (kk κ ky)=true
 simpa using h
theorem Ak{ky p:Keyed}(h:PB κ true ky p=false):le κ ky p:=by
 unfold PB at h
 show κ.blt (kk κ p) (kk κ ky)=false
 simpa using h
section
variable{α:Type}{Q:α->SortSt->Prop}{st:SortSt}
theorem M5{c:Prop}{_:Decidable c}{t e:StateT SortSt Sem α}(h1:c->wpS (model prog w) A E s t Q st)(h2:¬c->wpS (model prog w) A E s e Q st):wpS (model prog w) A E s (if c then t else e) Q st:=by
 split
 ·rename_i h;exact h1 h
 ·rename_i h;exact h2 h
theorem G7{x y:Nat}{t e:StateT SortSt Sem α}(h1:x=y->wpS (model prog w) A E s t Q st)(h2:x≠y->wpS (model prog w) A E s e Q st):wpS (model prog w) A E s (if(x == y)=true then t else e) Q st :=
 M5 (fun h=>h1 (eq_of_beq h)) fun h=>h2 fun z=>h (beq_iff_eq.mpr z)
theorem Kz{c:Prop}{_:Decidable c}{t:StateT SortSt Sem α}{F:Nat->StateT SortSt Sem α}(x:Nat){y:Nat}(h:∀g,wpS (model prog w) A E s (F g) Q st)(e:t=F x):wpS (model prog w) A E s (if c then t else F y) Q st:=by
 subst e
 exact M5 (fun _=>h _) fun _=>h _
theorem Bc{c:Prop}{_:Decidable c}{t:StateT SortSt Sem α}{F:Array Keyed->Nat->StateT SortSt Sem α}{o:Array Keyed}{i:Nat}(R:Array Keyed->Nat->Prop)(h:∀o i,R o i->wpS (model prog w) A E s (F o i) Q st)
  (hT:(∀o i,R o i->wpS (model prog w) A E s (F o i) Q st)->c->wpS (model prog w) A E s t Q st) (hE:¬c->R o i):wpS (model prog w) A E s (if c then t else F o i) Q st:=M5 (hT h) fun z=>h _ _ (hE z)
end
theorem Ml{α β:Type}{r0:Sem Unit}{el:StateT SortSt Sem Keyed}{x0:Keyed}{c1 c2:Prop}{_:Decidable c1}{_:Decidable c2}{t1 t2:Keyed->StateT SortSt Sem α}{ini:Keyed->SortSt->β}{n:Nat}{f:Nat->β->StateT SortSt Sem (ForInStep β)}{g:β->StateT SortSt Sem α}{Q:α->SortSt->Prop}{st:SortSt}
  (hr:∀R:Unit->SortSt->Prop,R () st->wpS (model prog w) A E s (liftM r0:StateT SortSt Sem Unit) R st) (he:∀R:Keyed->SortSt->Prop,R x0 st->wpS (model prog w) A E s el R st) (h1:c1->wpS (model prog w) A E s (t1 x0) Q st) (h2:¬c1->c2->wpS (model prog w) A E s (t2 x0) Q st)
  (h3:¬c1->¬c2->wpS (model prog w) A E s (forIn [0:n] (ini x0 st) f) (fun c st'=>wpS (model prog w) A E s (g c) Q st') st) :
  wpS (model prog w) A E s ((liftM r0:StateT SortSt Sem Unit) >>= fun _=>el >>= fun x=>if c1 then t1 x else if c2 then t2 x else get >>= fun st'=>forIn [0:n] (ini x st') f >>= g) Q st :=
 wpS_bind (hr _ (wpS_bind (he _ (M5 h1 fun z1=>M5 (h2 z1) fun z2=>wpS_bind (wpS_get (wpS_bind (h3 z1 z2)))))))
noncomputable def MR(κ:KeyKind)(a b:Array Keyed)(st:SortSt){β:Type}(c:Option (Array Keyed)×β)(st':SortSt):Prop:=Sm st st'/\∃r,c.1=some r/\Rm κ a b r
theorem MR.mk{a b r:Array Keyed}{st st':SortSt}{β:Type}{c:β}(sm:Sm st st')(h:Rm κ a b r):MR κ a b st (some r,c) st':=⟨sm,r,rfl,h⟩
structure LoP(κ:KeyKind)(a b:Array Keyed)(n:Nat)(o:Array Keyed)(i j:Nat):Prop where
 m:ML κ a.toList b.toList o.toList i j
 hi:i+1<a.size
 hj:j<b.size
 hn:n<=i+j
theorem LoP.putB{a b o o':Array Keyed}{n i j:Nat}(h:LoP κ a b n o i j)(m:ML κ a.toList b.toList o'.toList i (j+1))(e:j+1≠b.size):LoP κ a b (n+1) o' i (j+1):=⟨m,h.hi,Nat.lt_of_le_of_ne h.hj e,Nat.succ_le_succ h.hn⟩
theorem LoP.putA{a b o o':Array Keyed}{n i j:Nat}(h:LoP κ a b n o i j)(m:ML κ a.toList b.toList o'.toList (i+1) j)(e:i+1+1≠a.size):LoP κ a b (n+1) o' (i+1) j:=⟨m,Nat.lt_of_le_of_ne h.hi e,h.hj,by rw[Nat.add_right_comm];exact Nat.succ_le_succ h.hn⟩
theorem LoP.mono{a b o:Array Keyed}{n n' i j:Nat}(h:LoP κ a b n o i j)(l:n'<=n):LoP κ a b n' o i j:=⟨h.m,h.hi,h.hj,Nat.le_trans l h.hn⟩
noncomputable def Yk(κ:KeyKind)(a b:Array Keyed)(st:SortSt)(n:Nat)(c:Option (Array Keyed)×Array Keyed×Nat×Nat×Nat)(st':SortSt):Prop:=Sm st st'/\∃o i j mg,c =(none,o,i,j,mg)/\LoP κ a b n o i j
noncomputable def LoI2(κ:KeyKind)(a b:Array Keyed)(st:SortSt)(n:Nat)(c:Option (Array Keyed)×Array Keyed×Nat×Nat×Nat×Nat)(st':SortSt):Prop:=Sm st st'/\∃o i j ac bc,c =(none,o,i,j,ac,bc)/\LoP κ a b n o i j
noncomputable def LoI3(κ:KeyKind)(a b:Array Keyed)(st:SortSt)(n:Nat)(c:Option (Array Keyed)×Array Keyed×Nat×Nat×Nat×Nat×Nat)(st':SortSt):Prop:=Sm st st'/\∃o i j mg ac bc,c =(none,o,i,j,mg,ac,bc)/\LoP κ a b n o i j
theorem LoI2.mk{a b o:Array Keyed}{st st':SortSt}{n i j ac bc:Nat}(sm:Sm st st')(h:LoP κ a b n o i j):LoI2 κ a b st n (none,o,i,j,ac,bc) st':=⟨sm,_,_,_,_,_,rfl,h⟩
theorem LoI3.mk{a b o:Array Keyed}{st st':SortSt}{n i j mg ac bc:Nat}(sm:Sm st st')(h:LoP κ a b n o i j):LoI3 κ a b st n (none,o,i,j,mg,ac,bc) st':=⟨sm,_,_,_,_,_,_,rfl,h⟩
theorem Fb(C:Cmp prog w A s κ kd){st:SortSt}{a b:Array Keyed}{Q:Array Keyed->SortSt->Prop}(hk:kindOf st=kd)(P:Pre κ a b)
  (h:∀r st',Sm st st'->Rm κ a b r->Q r st'):wpS (model prog w) A E s (Aq a b) Q st:=by
 rw[Fj]
 obtain⟨b0,hb0⟩:=T3 (a:=b) (i:=0) P.nb
 have m0:ML κ a.toList b.toList (#[]:Array Keyed).toList 0 0:=⟨by simp,List.Pairwise.nil,fun x hx=>absurd hx (by simp),fun x hx=>absurd hx (by simp)⟩
 have m1:ML κ a.toList b.toList (#[b0]:Array Keyed).toList 0 1:=by
  have:=P.pushB m0 hb0 (by rw[List.drop_zero];exact P.first b0 hb0)
  simpa using this
 apply Ml (x0:=b0) (fun R z=>wpS_lift (wpAny_rule ⟨rfl,z⟩)) (fun R z=>C3 hb0 z)
 case h1=>exact fun hb1=>wpS_pure (h _ _ (Sm.refl _) (P.doneB m1 (eq_of_beq hb1)))
 case h2=>exact fun _ ha1=>wpS_pure (h _ _ (Sm.refl _) (P.lastA m1 (eq_of_beq ha1)))
 intro hb1 ha1
 have p1:LoP κ a b 1 #[b0] 0 1:=⟨m1,Nat.lt_of_le_of_ne P.na fun z=>ha1 (beq_iff_eq.mpr z),Nat.lt_of_le_of_ne P.nb fun z=>hb1 (beq_iff_eq.mpr z),Nat.le_refl _⟩
 refine wpS_mono (wpS_forRange (I:=fun x=>Yk κ a b st (x+1)) (Q:=MR κ a b st) ?st ?en ⟨Sm.refl _,_,_,_,_,rfl,p1⟩) ?po
 case po =>
  rintro⟨c1,c2⟩ st' ⟨sm,r,e,hr⟩
  cases e
  exact wpS_pure (h r st' sm hr)
 case en =>
  rintro c st' ⟨sm,o,i,j,mg,rfl,p⟩
  obtain⟨_,h1,h2,h3⟩:=p
  exfalso
  lia
 case st =>
  rintro x c st' _ hx ⟨sm,o,i,j,mg,rfl,p⟩
  refine wpS_bind (wpS_mono (wpS_forRange (I:=fun _=>LoI2 κ a b st (x+1)) (Q:=fun c st'=>MR κ a b st c st'\/LoI2 κ a b st (x+1) c st') ?st1 ?en1 (LoI2.mk sm p)) ?po1)
  case en1=>exact fun c st2 z=>.inr z
  case st1 =>
   rintro x2 c st2 _ _ ⟨sm2,o,i',j',ac,bc,rfl,p2⟩
   obtain⟨bj,hbj⟩:=T3 (a:=b) (i:=j') p2.hj
   obtain⟨ai,hai⟩:=T3 (a:=a) (i:=i') (Nat.lt_of_succ_lt p2.hi)
   refine wpS_bind (C3 hbj (wpS_bind (C3 hai (wpS_bind (Bw C (sm2.knd hk) (P.kb _ _ hbj) (P.ka _ _ hai) ?_)))))
   refine M5 (fun hlt=>wpS_bind (C3 hbj ?_)) fun hlt=>wpS_bind (C3 hai ?_)
   ·have m3:=P.pushB p2.m hbj fun z hz=>le_trans (KeyOrd.kle_of_klt hlt) (Ax P.sa (ar_get.mp hai) z hz)
    refine G7 (fun e1=>wpS_pure (.inl (MR.mk sm2 (P.doneB m3 e1)))) fun e1=>?_
    have p3:=(p2.putB m3 e1).mono (Nat.le_succ _)
    exact M5 (fun _=>wpS_pure (.inr (LoI2.mk sm2 p3))) fun _=>wpS_pure (LoI2.mk sm2 p3)
   ·have m3:=P.pushA p2.m hai fun z hz=>le_trans (show le κ ai bj from Bool.eq_false_iff.mpr hlt) (Ax P.sb (ar_get.mp hbj) z hz)
    refine G7 (fun e1=>wpS_pure (.inl (MR.mk sm2 (P.lastA m3 e1)))) fun e1=>?_
    have p3:=(p2.putA m3 e1).mono (Nat.le_succ _)
    exact M5 (fun _=>wpS_pure (.inr (LoI2.mk sm2 p3))) fun _=>wpS_pure (LoI2.mk sm2 p3)
  case po1 =>
   rintro⟨c1,c2⟩ st2 (⟨sm2,r,e,hr⟩ | ⟨sm2,o2,i2,j2,ac,bc,e,p2⟩)
   ·cases e
    exact wpS_pure (MR.mk sm2 hr)
   ·cases e
    refine wpS_bind (wpS_lift (wpAny_rule ⟨rfl,?_⟩))
    refine wpS_bind (wpS_mono (wpS_forRange (I:=fun x3=>LoI3 κ a b st (x+1+x3)) (Q:=fun c st'=>MR κ a b st c st'\/LoI3 κ a b st (x+1+1) c st') ?st2 ?en2 (LoI3.mk sm2 p2)) ?po2)
    case en2 =>
     rintro c st3 ⟨sm3,o',i',j',mg',ac,bc,rfl,p3⟩
     refine .inr (LoI3.mk sm3 (p3.mono ?_))
     have:=P.na
     lia
    case po2 =>
     rintro⟨c1,c2⟩ st3 (⟨sm3,r,e,hr⟩ | ⟨sm3,o',i',j',mg',ac,bc,e,p3⟩)
     ·cases e
      exact wpS_pure (MR.mk sm3 hr)
     ·cases e
      refine wpS_bind (R8 sm3 fun st4 sm4=>?_)
      exact wpS_pure ⟨sm4,_,_,_,_,rfl,p3⟩
    case st2 =>
     rintro x3 c st3 _ _ ⟨sm3,o3,i3,j3,mg3,ac3,bc3,rfl,p3⟩
     obtain⟨bj,hbj⟩:=T3 (a:=b) (i:=j3) p3.hj
     have hi3:i3 +(a.size-i3)<=a.size:=by rw[Nat.add_sub_cancel' (Nat.le_of_lt (Nat.lt_of_succ_lt p3.hi))];exact Nat.le_refl _
     have hj3:=p3.hj
     apply Kz (mg3-1) (y:=mg3)
     case e=>exact rfl
     intro g
     refine wpS_bind (R8 sm3 fun st4 sm4=>?_)
     refine wpS_bind (C3 hbj (wpS_bind (X0 C (sm4.knd hk) (P.kb _ _ hbj) hi3 P.ka (fun u v p q huv _ e1 e2=>X8 P.sa (Nat.add_le_add_left huv _) (ar_get.mp e1) (ar_get.mp e2)) (Nat.sub_pos_of_lt (Nat.lt_of_succ_lt p3.hi)) fun k hk1 k1 k2=>?_)))
     have m4:ML κ a.toList b.toList (o3++a.extract i3 (i3+k)).toList (i3+k) j3:=P.extA p3.m fun y hy z hz=>by
      obtain⟨t,ht,e⟩:=Aa hy
      exact le_trans (Aw (k1 t y ht (ar_get.mpr e))) (Ax P.sb (ar_get.mp hbj) z hz)
     have hbz:∀z∈a.toList.drop (i3+k),le κ bj z:=fun z hz=>by
      obtain⟨t,ht,e⟩:=Ez hz
      rw[Array.length_toList]at ht
      exact KeyOrd.kle_of_klt (t7 (k2 (k+t) z (Nat.le_add_right _ _) (by lia) (by rw[<-Nat.add_assoc];exact ar_get.mpr e)))
     apply Bc (o:=o3) (i:=i3) (fun o i=>LoP κ a b (x+1+x3) o i j3/\∀z∈a.toList.drop i,le κ bj z)
     ·rintro o4 i4 ⟨p4,hbz⟩
      refine wpS_bind (C3 hbj ?_)
      have m5:=P.pushB p4.m hbj hbz
      refine G7 (fun e3=>wpS_pure (.inl (MR.mk sm4 (P.doneB m5 e3)))) fun e3=>?_
      have p5:=p4.putB m5 e3
      generalize o4.push bj=o5 at m5 p5⊢
      generalize j3+1=j5 at m5 p5⊢
      obtain⟨ai,hai⟩:=T3 (a:=a) (i:=i4) (Nat.lt_of_succ_lt p5.hi)
      refine wpS_bind (C3 hai (wpS_bind (X0 C (sm4.knd hk) (P.ka _ _ hai) (by rw[Nat.add_sub_cancel' (Nat.le_of_lt p5.hj)];exact Nat.le_refl _) P.kb (fun u v p q huv _ e1 e2=>X8 P.sb (Nat.add_le_add_left huv _) (ar_get.mp e1) (ar_get.mp e2)) (Nat.sub_pos_of_lt p5.hj) fun k' hk1' k1' k2'=>?_)))
      have haz:∀z∈b.toList.drop (j5+k'),le κ ai z:=fun z hz=>by
       obtain⟨t,ht,e⟩:=Ez hz
       rw[Array.length_toList]at ht
       exact Ak (k2' (k'+t) z (Nat.le_add_right _ _) (by lia) (by rw[<-Nat.add_assoc];exact ar_get.mpr e))
      apply Bc (o:=o5) (i:=j5) (fun o j=>LoP κ a b (x+1+x3+1) o i4 j/\∀z∈b.toList.drop j,le κ ai z)
      ·rintro o6 j6 ⟨p6,haz⟩
       refine wpS_bind (C3 hai ?_)
       have m7:=P.pushA p6.m hai haz
       refine G7 (fun e5=>wpS_pure (.inl (MR.mk sm4 (P.lastA m7 e5)))) fun e5=>?_
       have p7:=p6.putA m7 e5
       exact M5 (fun _=>wpS_pure (.inr (LoI3.mk sm4 (p7.mono (by lia))))) fun _=>wpS_pure (LoI3.mk sm4 (p7.mono (by lia)))
      ·intro hF hk0
       have m6:ML κ a.toList b.toList (o5++b.extract j5 (j5+k')).toList i4 (j5+k'):=P.extB m5 fun y hy z hz=>by
        obtain⟨t,ht,e⟩:=Aa hy
        exact le_trans (KeyOrd.kle_of_klt (En (k1' t y ht (ar_get.mpr e)))) (Ax P.sa (ar_get.mp hai) z hz)
       have hj5:=p5.hj
       exact G7 (fun e4=>wpS_pure (.inl (MR.mk sm4 (P.doneB m6 e4)))) fun e4=>hF _ _ ⟨⟨m6,p5.hi,by lia,Nat.le_trans p5.hn (by lia)⟩,haz⟩
      ·intro hk0
       have z0:k'=0:=Nat.eq_zero_of_not_pos hk0
       subst z0
       exact⟨p5,haz⟩
     ·intro hF hk0
      have hi:=p3.hi
      exact G7 (fun e1=>wpS_pure (.inl (MR.mk sm4 (P.lastA m4 e1)))) fun e1=>G7 (fun e2=>wpS_pure (.inl (MR.mk sm4 (P.doneA m4 e2)))) fun e2=>hF _ _ ⟨⟨m4,by lia,p3.hj,Nat.le_trans p3.hn (by lia)⟩,hbz⟩
     ·intro hk0
      have z0:k=0:=Nat.eq_zero_of_not_pos hk0
      subst z0
      exact⟨p3,hbz⟩
end
section
variable{prog:Program}{w:World}{A:Around}{E:Value->Shared->Prop}{s:Shared}{κ:KeyKind}{kd:SortKind}
noncomputable def Al:Array Keyed->Array Keyed->StateT SortSt Sem (Array Keyed):=sortPriv% PySem.Builtin.mergeHi
theorem Fg(a b:Array Keyed):Al a b =(do
  rule "list.sort.merge-hi"
  let tot:=a.size+b.size
  let dn (o:Array Keyed) (i j:Nat):=a.extract 0 i++b.extract 0 j++o.reverse
  let fB (o:Array Keyed) (i j:Nat):=b.extract 0 j++a.extract 0 i++o.reverse
  let mut i:=a.size-1
  let mut j:=b.size
  let mut o:Array Keyed:=#[<-elem' a i]
  if i == 0 then return dn o i j
  if j == 1 then return fB o i j
  let mut mg:=gallopOf (<-get)
  for _ in [0:tot] do
   let mut ac:=0
   let mut bc:=0
   for _ in [0:tot] do
    let some aw <-lt' (<-elem' b (j-1)) (<-elem' a (i-1)) | return dn o i j
    if aw then
     i:=i-1;o:=o.push (<-elem' a i);ac:=ac+1;bc:=0
     if i == 0 then return dn o i j
     if ac ≥ mg then break
    else
     j:=j-1;o:=o.push (<-elem' b j);bc:=bc+1;ac:=0
     if j == 1 then return fB o i j
     if bc ≥ mg then break
   rule "list.sort.gallop"
   mg:=mg+1
   for _ in [0:tot] do
    if mg>1 then mg:=mg-1
    p8 mg
    let some at_ <-N9 false (<-elem' b (j-1)) a 0 i (i-1) | return dn o i j
    let k:=i-at_
    ac:=k
    if k>0 then
     o:=o ++(a.extract at_ i).reverse;i:=at_
     if i == 0 then return dn o i j
    j:=j-1;o:=o.push (<-elem' b j)
    if j == 1 then return fB o i j
    let some at_ <-N9 true (<-elem' a (i-1)) b 0 j (j-1) | return dn o i j
    let k:=j-at_
    bc:=k
    if k>0 then
     o:=o ++(b.extract at_ j).reverse;j:=at_
     if j == 1 then return fB o i j
     if j == 0 then return dn o i j
    i:=i-1;o:=o.push (<-elem' a i)
    if i == 0 then return dn o i j
    if ac<7&&bc<7 then break
   mg:=mg+1
   p8 mg
  unsupported "internal:list.sort.merge-bound"):=rfl
noncomputable abbrev MHa(κ:KeyKind)(a b o:Array Keyed)(i j:Nat):Prop:=MH κ a.toList b.toList o.toList.reverse i j
section
variable{a b o:Array Keyed}{i j k:Nat}{p q:Keyed}
theorem td1{l:List Keyed}{i:Nat}{p:Keyed}(hi:1<=i)(h:l[i-1]?=some p):(l.take i).drop (i-1) = [p]:=by
 rw[List.drop_take,show i-(i-1)=1 by lia]
 exact Mr h
theorem Fm(a:Array Keyed)(k i:Nat):(a.extract k i).toList =(a.toList.take i).drop k:=by
 rw[Array.toList_extract,List.extract_eq_take_drop,List.drop_take]
theorem Be{l:List Keyed}(h:Sor κ l){i:Nat}{p:Keyed}(hp:l[i-1]?=some p):∀z∈l.take i,le κ z p:=fun z hz=>by
 obtain⟨t,h1,_,e⟩:=Jc hz
 exact X8 h (by lia) e hp
theorem Pre.hpA(P:Pre κ a b)(m:MHa κ a b o i j)(hi:1<=i)(hp:a[i-1]?=some p)(h:∀z∈b.toList.take j,le κ z p):MHa κ a b (o.push p) (i-1) j:=by
 have h1:=m.addA P.sa (i-1) (by lia) (by rw[td1 hi (ar_get.mp hp)];intro y hy;rw[List.mem_singleton.mp hy];exact h)
 rw[td1 hi (ar_get.mp hp)]at h1
 unfold MHa
 rw[Array.toList_push,List.reverse_append]
 exact h1
theorem Pre.hpB(P:Pre κ a b)(m:MHa κ a b o i j)(hj:1<=j)(hq:b[j-1]?=some q)(h:∀z∈a.toList.take i,le κ z q):MHa κ a b (o.push q) i (j-1):=by
 have h1:=m.addB P.sb (j-1) (by lia) (by rw[td1 hj (ar_get.mp hq)];intro y hy;rw[List.mem_singleton.mp hy];exact h)
 rw[td1 hj (ar_get.mp hq)]at h1
 unfold MHa
 rw[Array.toList_push,List.reverse_append]
 exact h1
theorem Pre.heA(P:Pre κ a b)(m:MHa κ a b o i j)(hk:k<=i)(h:∀y∈(a.toList.take i).drop k,∀z∈b.toList.take j,le κ z y):MHa κ a b (o ++(a.extract k i).reverse) k j:=by
 unfold MHa
 rw[Array.toList_append,Array.toList_reverse,List.reverse_append,List.reverse_reverse,Fm]
 exact m.addA P.sa k hk h
theorem Pre.heB(P:Pre κ a b)(m:MHa κ a b o i j)(hk:k<=j)(h:∀y∈(b.toList.take j).drop k,∀z∈a.toList.take i,le κ z y):MHa κ a b (o ++(b.extract k j).reverse) i k:=by
 unfold MHa
 rw[Array.toList_append,Array.toList_reverse,List.reverse_append,List.reverse_reverse,Fm]
 exact m.addB P.sb k hk h
theorem Pre.hdA(P:Pre κ a b)(m:MHa κ a b o i j)(hi:i=0):Rm κ a b (a.extract 0 i++b.extract 0 j++o.reverse):=by
 unfold Rm
 rw[Array.toList_append,Array.toList_append,Array.toList_reverse,X2,X2]
 refine m.endA P.sa P.sb fun y hy z _=>?_
 rw[hi,List.take_zero]at hy
 exact absurd hy (by simp)
theorem Pre.hdB(P:Pre κ a b)(m:MHa κ a b o i j)(hj:j=0):Rm κ a b (a.extract 0 i++b.extract 0 j++o.reverse):=by
 unfold Rm
 rw[Array.toList_append,Array.toList_append,Array.toList_reverse,X2,X2]
 refine m.endA P.sa P.sb fun y _ z hz=>?_
 rw[hj,List.take_zero]at hz
 exact absurd hz (by simp)
theorem Pre.hfB(P:Pre κ a b)(m:MHa κ a b o i j)(hj:j=1):Rm κ a b (b.extract 0 j++a.extract 0 i++o.reverse):=by
 unfold Rm
 rw[Array.toList_append,Array.toList_append,Array.toList_reverse,X2,X2]
 refine m.endB P.sa P.sb fun y hy z hz=>?_
 obtain⟨t,h1,_,e⟩:=Jc hy
 have e0:t=0:=by lia
 rw[e0]at e
 exact P.first y (ar_get.mpr e) z (List.mem_of_mem_take hz)
end
structure HiP(κ:KeyKind)(a b:Array Keyed)(n:Nat)(o:Array Keyed)(i j:Nat):Prop where
 m:MHa κ a b o i j
 hi:1<=i
 hj:2<=j
 ia:i<=a.size
 jb:j<=b.size
 hn:n+i+j<=a.size+b.size
theorem HiP.putA{a b o o':Array Keyed}{n i j:Nat}(h:HiP κ a b n o i j)(m:MHa κ a b o' (i-1) j)(e:i-1≠0):HiP κ a b (n+1) o' (i-1) j:=by
 obtain⟨_,h1,h2,h3,h4,h5⟩:=h
 exact⟨m,by lia,h2,by lia,h4,by lia⟩
theorem HiP.putB{a b o o':Array Keyed}{n i j:Nat}(h:HiP κ a b n o i j)(m:MHa κ a b o' i (j-1))(e:j-1≠1):HiP κ a b (n+1) o' i (j-1):=by
 obtain⟨_,h1,h2,h3,h4,h5⟩:=h
 exact⟨m,h1,by lia,h3,by lia,by lia⟩
theorem HiP.mono{a b o:Array Keyed}{n n' i j:Nat}(h:HiP κ a b n o i j)(l:n'<=n):HiP κ a b n' o i j:=⟨h.m,h.hi,h.hj,h.ia,h.jb,Nat.le_trans (Nat.add_le_add_right (Nat.add_le_add_right l _) _) h.hn⟩
theorem HiP.la{a b o:Array Keyed}{n i j:Nat}(h:HiP κ a b n o i j):i-1<a.size:=Nat.lt_of_lt_of_le (Nat.sub_lt h.hi (Nat.zero_lt_one)) h.ia
theorem HiP.lb{a b o:Array Keyed}{n i j:Nat}(h:HiP κ a b n o i j):j-1<b.size:=Nat.lt_of_lt_of_le (Nat.sub_lt (Nat.lt_of_succ_lt h.hj) (Nat.zero_lt_one)) h.jb
theorem HiP.hj1{a b o:Array Keyed}{n i j:Nat}(h:HiP κ a b n o i j):1<=j:=Nat.le_of_succ_le h.hj
noncomputable def Yl(κ:KeyKind)(a b:Array Keyed)(st:SortSt)(n:Nat)(c:Option (Array Keyed)×Nat×Nat×Array Keyed×Nat)(st':SortSt):Prop:=Sm st st'/\∃i j o mg,c =(none,i,j,o,mg)/\HiP κ a b n o i j
noncomputable def HiI2(κ:KeyKind)(a b:Array Keyed)(st:SortSt)(n:Nat)(c:Option (Array Keyed)×Nat×Nat×Array Keyed×Nat×Nat)(st':SortSt):Prop:=Sm st st'/\∃i j o ac bc,c =(none,i,j,o,ac,bc)/\HiP κ a b n o i j
noncomputable def HiI3(κ:KeyKind)(a b:Array Keyed)(st:SortSt)(n:Nat)(c:Option (Array Keyed)×Nat×Nat×Array Keyed×Nat×Nat×Nat)(st':SortSt):Prop:=Sm st st'/\∃i j o mg ac bc,c =(none,i,j,o,mg,ac,bc)/\HiP κ a b n o i j
theorem HiI2.mk{a b o:Array Keyed}{st st':SortSt}{n i j ac bc:Nat}(sm:Sm st st')(h:HiP κ a b n o i j):HiI2 κ a b st n (none,i,j,o,ac,bc) st':=⟨sm,_,_,_,_,_,rfl,h⟩
theorem HiI3.mk{a b o:Array Keyed}{st st':SortSt}{n i j mg ac bc:Nat}(sm:Sm st st')(h:HiP κ a b n o i j):HiI3 κ a b st n (none,i,j,o,mg,ac,bc) st':=⟨sm,_,_,_,_,_,_,rfl,h⟩
theorem Ej(C:Cmp prog w A s κ kd){st:SortSt}{a b:Array Keyed}{Q:Array Keyed->SortSt->Prop}(hk:kindOf st=kd)(P:Pre κ a b)
  (h:∀r st',Sm st st'->Rm κ a b r->Q r st'):wpS (model prog w) A E s (Al a b) Q st:=by
 rw[Fg]
 have hna:=P.na
 have hnb:=P.nb
 obtain⟨b0,hb0⟩:=T3 (a:=a) (i:=a.size-1) (Nat.sub_lt hna Nat.zero_lt_one)
 have m0:MHa κ a b (#[]:Array Keyed) a.size b.size:=⟨by simp,List.Pairwise.nil,fun x hx=>absurd hx (by simp),fun x hx=>absurd hx (by simp)⟩
 have m1:MHa κ a b (#[b0]:Array Keyed) (a.size-1) b.size:=by
  have:=P.hpA m0 hna hb0 (fun z hz=>P.last b0 hb0 z (List.mem_of_mem_take hz))
  simpa using this
 apply Ml (x0:=b0) (fun R z=>wpS_lift (wpAny_rule ⟨rfl,z⟩)) (fun R z=>C3 hb0 z)
 case h1=>exact fun ha1=>wpS_pure (h _ _ (Sm.refl _) (P.hdA m1 (eq_of_beq ha1)))
 case h2=>exact fun _ hb1=>wpS_pure (h _ _ (Sm.refl _) (P.hfB m1 (eq_of_beq hb1)))
 intro ha1 hb1
 have ha1:¬a.size-1=0:=fun z=>ha1 (beq_iff_eq.mpr z)
 have hb1:¬b.size=1:=fun z=>hb1 (beq_iff_eq.mpr z)
 have p1:HiP κ a b 1 #[b0] (a.size-1) b.size:=⟨m1,by lia,by lia,by lia,by lia,by lia⟩
 refine wpS_mono (wpS_forRange (I:=fun x=>Yl κ a b st (x+1)) (Q:=MR κ a b st) ?st ?en ⟨Sm.refl _,_,_,_,_,rfl,p1⟩) ?po
 case po =>
  rintro⟨c1,c2⟩ st' ⟨sm,r,e,hr⟩
  cases e
  exact wpS_pure (h r st' sm hr)
 case en =>
  rintro c st' ⟨sm,i,j,o,mg,rfl,p⟩
  obtain⟨_,h1,h2,_,_,h3⟩:=p
  exfalso
  lia
 case st =>
  rintro x c st' _ hx ⟨sm,i,j,o,mg,rfl,p⟩
  refine wpS_bind (wpS_mono (wpS_forRange (I:=fun _=>HiI2 κ a b st (x+1)) (Q:=fun c st'=>MR κ a b st c st'\/HiI2 κ a b st (x+1) c st') ?st1 ?en1 (HiI2.mk sm p)) ?po1)
  case en1=>exact fun c st2 z=>.inr z
  case st1 =>
   rintro x2 c st2 _ _ ⟨sm2,i',j',o,ac,bc,rfl,p2⟩
   obtain⟨bj,hbj⟩:=T3 (a:=b) (i:=j' - 1) p2.lb
   obtain⟨ai,hai⟩:=T3 (a:=a) (i:=i' - 1) p2.la
   refine wpS_bind (C3 hbj (wpS_bind (C3 hai (wpS_bind (Bw C (sm2.knd hk) (P.kb _ _ hbj) (P.ka _ _ hai) ?_)))))
   refine M5 (fun hlt=>wpS_bind (C3 hai ?_)) fun hlt=>wpS_bind (C3 hbj ?_)
   ·have m3:=P.hpA p2.m p2.hi hai fun z hz=>le_trans (Be P.sb (ar_get.mp hbj) z hz) (KeyOrd.kle_of_klt hlt)
    refine G7 (fun e1=>wpS_pure (.inl (MR.mk sm2 (P.hdA m3 e1)))) fun e1=>?_
    have p3:=(p2.putA m3 e1).mono (Nat.le_succ _)
    exact M5 (fun _=>wpS_pure (.inr (HiI2.mk sm2 p3))) fun _=>wpS_pure (HiI2.mk sm2 p3)
   ·have m3:=P.hpB p2.m p2.hj1 hbj fun z hz=>le_trans (Be P.sa (ar_get.mp hai) z hz) (show le κ ai bj from Bool.eq_false_iff.mpr hlt)
    refine G7 (fun e1=>wpS_pure (.inl (MR.mk sm2 (P.hfB m3 e1)))) fun e1=>?_
    have p3:=(p2.putB m3 e1).mono (Nat.le_succ _)
    exact M5 (fun _=>wpS_pure (.inr (HiI2.mk sm2 p3))) fun _=>wpS_pure (HiI2.mk sm2 p3)
  case po1 =>
   rintro⟨c1,c2⟩ st2 (⟨sm2,r,e,hr⟩ | ⟨sm2,i2,j2,o2,ac,bc,e,p2⟩)
   ·cases e
    exact wpS_pure (MR.mk sm2 hr)
   ·cases e
    refine wpS_bind (wpS_lift (wpAny_rule ⟨rfl,?_⟩))
    refine wpS_bind (wpS_mono (wpS_forRange (I:=fun x3=>HiI3 κ a b st (x+1+x3)) (Q:=fun c st'=>MR κ a b st c st'\/HiI3 κ a b st (x+1+1) c st') ?st2 ?en2 (HiI3.mk sm2 p2)) ?po2)
    case en2 =>
     rintro c st3 ⟨sm3,i',j',o',mg',ac,bc,rfl,p3⟩
     exact .inr (HiI3.mk sm3 (p3.mono (by lia)))
    case po2 =>
     rintro⟨c1,c2⟩ st3 (⟨sm3,r,e,hr⟩ | ⟨sm3,i',j',o',mg',ac,bc,e,p3⟩)
     ·cases e
      exact wpS_pure (MR.mk sm3 hr)
     ·cases e
      refine wpS_bind (R8 sm3 fun st4 sm4=>?_)
      exact wpS_pure ⟨sm4,_,_,_,_,rfl,p3⟩
    case st2 =>
     rintro x3 c st3 _ _ ⟨sm3,i3,j3,o3,mg3,ac3,bc3,rfl,p3⟩
     obtain⟨bj,hbj⟩:=T3 (a:=b) (i:=j3-1) p3.lb
     apply Kz (mg3-1) (y:=mg3)
     case e=>exact rfl
     intro g
     refine wpS_bind (R8 sm3 fun st4 sm4=>?_)
     refine wpS_bind (C3 hbj (wpS_bind (X0 C (sm4.knd hk) (P.kb _ _ hbj) (by rw[Nat.zero_add];exact p3.ia) P.ka (fun u v p q huv _ e1 e2=>X8 P.sa (Nat.add_le_add_left huv _) (ar_get.mp e1) (ar_get.mp e2)) (Nat.sub_lt p3.hi Nat.zero_lt_one) fun k hk1 k1 k2=>?_)))
     dsimp only
     have m4:MHa κ a b (o3 ++(a.extract k i3).reverse) k j3:=P.heA p3.m hk1 fun y hy z hz=>by
      obtain⟨t,ht1,ht2,e⟩:=Qd hy
      exact le_trans (Be P.sb (ar_get.mp hbj) z hz) (KeyOrd.kle_of_klt (t7 (k2 t y ht1 ht2 (by rw[Nat.zero_add];exact ar_get.mpr e))))
     have hbz:∀z∈a.toList.take k,le κ z bj:=fun z hz=>by
      obtain⟨t,ht,_,e⟩:=Jc hz
      exact Aw (k1 t z ht (by rw[Nat.zero_add];exact ar_get.mpr e))
     generalize hd:i3-k=d
     apply Bc (o:=o3) (i:=i3) (fun o i=>HiP κ a b (x+1+x3) o i j3/\∀z∈a.toList.take i,le κ z bj)
     ·rintro o4 i4 ⟨p4,hbz⟩
      refine wpS_bind (C3 hbj ?_)
      have m5:=P.hpB p4.m p4.hj1 hbj hbz
      refine G7 (fun e3=>wpS_pure (.inl (MR.mk sm4 (P.hfB m5 e3)))) fun e3=>?_
      have p5:=p4.putB m5 e3
      generalize o4.push bj=o5 at m5 p5⊢
      generalize j3-1=j5 at m5 p5⊢
      obtain⟨ai,hai⟩:=T3 (a:=a) (i:=i4-1) p5.la
      refine wpS_bind (C3 hai (wpS_bind (X0 C (sm4.knd hk) (P.ka _ _ hai) (by rw[Nat.zero_add];exact p5.jb) P.kb (fun u v p q huv _ e1 e2=>X8 P.sb (Nat.add_le_add_left huv _) (ar_get.mp e1) (ar_get.mp e2)) (Nat.sub_lt p5.hj1 Nat.zero_lt_one) fun k' hk1' k1' k2'=>?_)))
      dsimp only
      have haz:∀z∈b.toList.take k',le κ z ai:=fun z hz=>by
       obtain⟨t,ht,_,e⟩:=Jc hz
       exact KeyOrd.kle_of_klt (En (k1' t z ht (by rw[Nat.zero_add];exact ar_get.mpr e)))
      generalize hd':j5-k'=d'
      apply Bc (o:=o5) (i:=j5) (fun o j=>HiP κ a b (x+1+x3+1) o i4 j/\∀z∈b.toList.take j,le κ z ai)
      ·rintro o6 j6 ⟨p6,haz⟩
       refine wpS_bind (C3 hai ?_)
       have m7:=P.hpA p6.m p6.hi hai haz
       refine G7 (fun e5=>wpS_pure (.inl (MR.mk sm4 (P.hdA m7 e5)))) fun e5=>?_
       have p7:=p6.putA m7 e5
       exact M5 (fun _=>wpS_pure (.inr (HiI3.mk sm4 (p7.mono (by lia))))) fun _=>wpS_pure (HiI3.mk sm4 (p7.mono (by lia)))
      ·intro hF hk0
       have m6:MHa κ a b (o5 ++(b.extract k' j5).reverse) i4 k':=P.heB m5 hk1' fun y hy z hz=>by
        obtain⟨t,ht1,ht2,e⟩:=Qd hy
        exact le_trans (Be P.sa (ar_get.mp hai) z hz) (Ak (k2' t y ht1 ht2 (by rw[Nat.zero_add];exact ar_get.mpr e)))
       obtain⟨_,h1,h2,h3,h4,h5⟩:=p5
       exact G7 (fun e4=>wpS_pure (.inl (MR.mk sm4 (P.hfB m6 e4)))) fun e4=>G7 (fun e5=>wpS_pure (.inl (MR.mk sm4 (P.hdB m6 e5)))) fun e5=>hF _ _ ⟨⟨m6,h1,by lia,h3,Nat.le_trans hk1' h4,by lia⟩,haz⟩
      ·intro hk0
       have z0:k'=j5:=Nat.le_antisymm hk1' (Nat.le_of_sub_eq_zero (hd'.trans (Nat.eq_zero_of_not_pos hk0)))
       subst z0
       exact⟨p5,haz⟩
     ·intro hF hk0
      obtain⟨_,h1,h2,h3,h4,h5⟩:=p3
      exact G7 (fun e1=>wpS_pure (.inl (MR.mk sm4 (P.hdA m4 e1)))) fun e1=>hF _ _ ⟨⟨m4,by lia,h2,Nat.le_trans hk1 h3,h4,by lia⟩,hbz⟩
     ·intro hk0
      have z0:k=i3:=Nat.le_antisymm hk1 (Nat.le_of_sub_eq_zero (hd.trans (Nat.eq_zero_of_not_pos hk0)))
      subst z0
      exact⟨p3,hbz⟩
end
section
variable{prog:Program}{w:World}{A:Around}{E:Value->Shared->Prop}{s:Shared}{κ:KeyKind}{kd:SortKind}
noncomputable def seg(l:List Keyed)(lo n:Nat):List Keyed:=(l.drop lo).take n
theorem Ku(m:List Keyed)(lo:Nat):∀(n:Nat) (a:Array Keyed),lo+n+m.length<=a.size ->
  ((m.zipIdx n).foldl (fun a (x:Keyed×Nat)=>a.setIfInBounds (lo+x.2) x.1) a).size=a.size /\
  ∀t:Nat,((m.zipIdx n).foldl (fun a (x:Keyed×Nat)=>a.setIfInBounds (lo+x.2) x.1) a)[t]?=if lo+n<=t/\t<lo+n+m.length then m[t-(lo+n)]? else a[t]?:=by
 induction m with
 | nil =>
  intro n a h
  refine⟨rfl,fun t=>?_⟩
  rw[if_neg (by simp only[List.length_nil];omega)]
  rfl
 | cons p m ih =>
  intro n a h
  rw[List.length_cons]at h
  rw[List.zipIdx_cons,List.foldl_cons]
  obtain⟨i1,i2⟩:=ih (n+1) (a.setIfInBounds (lo+n) p) (by rw[Array.size_setIfInBounds];omega)
  refine⟨i1.trans Array.size_setIfInBounds,fun t=>?_⟩
  rw[i2 t,List.length_cons]
  by_cases h1:lo+n=t
  ·subst h1
   rw[if_neg (by omega),if_pos (by omega),Array.getElem?_setIfInBounds_self_of_lt (by omega),Nat.sub_self]
   rfl
  ·by_cases h2:lo +(n+1)<=t/\t<lo +(n+1)+m.length
   ·rw[if_pos h2,if_pos (by omega),show t-(lo+n) =(t-(lo +(n+1)))+1 by omega,List.getElem?_cons_succ]
   ·rw[if_neg h2,if_neg (by omega),Array.getElem?_setIfInBounds_ne h1]
theorem v9(m:List Keyed)(lo:Nat)(a:Array Keyed)(h:lo+m.length<=a.size) :
  (m.zipIdx.foldl (fun a (x:Keyed×Nat)=>a.setIfInBounds (lo+x.2) x.1) a).toList=a.toList.take lo++m++a.toList.drop (lo+m.length):=by
 obtain⟨h1,h2⟩:=Ku m lo 0 a (by omega)
 refine List.ext_getElem? fun t=>?_
 rw[Array.getElem?_toList,h2 t]
 have hl:(a.toList.take lo).length=lo:=by rw[List.length_take,Array.length_toList];omega
 by_cases c1:t<lo
 ·rw[if_neg (by omega),List.append_assoc,List.getElem?_append_left (by omega),List.getElem?_take_of_lt c1,Array.getElem?_toList]
 ·by_cases c2:t<lo+m.length
  ·rw[if_pos (by omega),List.getElem?_append_left (by rw[List.length_append];omega),List.getElem?_append_right (by omega),hl]
   rfl
  ·rw[if_neg (by omega),List.getElem?_append_right (by rw[List.length_append];omega),List.length_append,hl,List.getElem?_drop,Array.getElem?_toList]
   congr 1
   omega
theorem Jw(l:List Keyed)(lo n:Nat):l=l.take lo++seg l lo n++l.drop (lo+n):=by
 unfold seg
 rw[List.append_assoc,<-List.drop_drop,List.take_append_drop,List.take_append_drop]
theorem Fi(l:List Keyed)(lo n m:Nat):seg l lo (n+m)=seg l lo n++seg l (lo+n) m:=by
 unfold seg
 rw[List.take_add,List.drop_drop]
structure Part(κ:KeyKind)(l l':List Keyed)(lo n:Nat):Prop where
 perm:l'.Perm l
 front:l'.take lo=l.take lo
 back:l'.drop (lo+n)=l.drop (lo+n)
theorem Part.refl(l:List Keyed)(lo n:Nat):Part κ l l lo n:=⟨List.Perm.refl _,rfl,rfl⟩
theorem Part.seg_front{l l':List Keyed}{lo n:Nat}(h:Part κ l l' lo n){u m:Nat}(hu:u+m<=lo):seg l' u m=seg l u m:=by
 have:∀x:List Keyed,seg x u m =((x.take lo).drop u).take m:=fun x=>by
  unfold seg
  rw[List.drop_take,List.take_take,Nat.min_eq_left (by omega)]
 rw[this,this,h.front]
theorem Part.seg_back{l l':List Keyed}{lo n:Nat}(h:Part κ l l' lo n){u m:Nat}(hu:lo+n<=u):seg l' u m=seg l u m:=by
 have:∀x:List Keyed,seg x u m =((x.drop (lo+n)).drop (u-(lo+n))).take m:=fun x=>by
  unfold seg
  rw[List.drop_drop,show lo+n +(u-(lo+n))=u by omega]
 rw[this,this,h.back]
theorem Part.of{l z:List Keyed}{lo n:Nat}(hz:z.Perm (seg l lo n))(hl:lo+n<=l.length):Part κ l (l.take lo++z++l.drop (lo+n)) lo n/\seg (l.take lo++z++l.drop (lo+n)) lo n=z:=by
 have h1:(l.take lo).length=lo:=by rw[List.length_take];omega
 have h2:z.length=n:=by
  rw[hz.length_eq]
  unfold seg
  rw[List.length_take,List.length_drop]
  omega
 refine⟨⟨?_,?_,?_⟩,?_⟩
 ·conv=>rhs;rw[Jw l lo n]
  exact List.Perm.append_right _ (List.Perm.append_left _ hz)
 ·rw[List.append_assoc,List.take_append_of_le_length (by omega),List.take_of_length_le (by omega)]
 ·rw[List.drop_append,List.drop_eq_nil_of_le (by rw[List.length_append];omega),List.nil_append,List.length_append,h1,h2,Nat.sub_self,List.drop_zero]
 ·unfold seg
  rw[List.append_assoc,List.drop_append,List.drop_eq_nil_of_le (by omega),List.nil_append,h1,Nat.sub_self,List.drop_zero,List.take_append_of_le_length (by omega),List.take_of_length_le (by omega)]
structure St(κ:KeyKind)(kd:SortKind)(a₀:Array Keyed)(st:SortSt):Prop where
 perm:(arrOf st).toList.Perm a₀.toList
 kind:kindOf st=kd
 failed:failedOf st=none
theorem St.size{a₀:Array Keyed}{st:SortSt}(h:St κ kd a₀ st):(arrOf st).size=a₀.size:=by
 have:=h.perm.length_eq
 simpa using this
theorem St.has{a₀:Array Keyed}{st:SortSt}(h:St κ kd a₀ st)(h0:KeysOf κ a₀)(i:Nat)(p:Keyed)(e:(arrOf st)[i]?=some p):Has κ p :=
 h0 p (h.perm.mem_iff.mp (List.mem_of_getElem? (ar_get.mp e)))
theorem I0{l:List Keyed}{lo n t:Nat}(ht:t<n):(seg l lo n)[t]?=l[lo+t]?:=by
 unfold seg
 rw[List.getElem?_take_of_lt ht,List.getElem?_drop]
theorem Ed(i:Nat):mergeAt' i =(do
  let u <-get
  let(some (sa,na,pw),some (sb,nb,_)):=((pendingOf u)[i]?,(pendingOf u)[i+1]?) | unsupported "internal:list.sort.pending"
  set (setPending u (((pendingOf u).setIfInBounds i (sa,na+nb,pw)).eraseIdxIfInBounds (i+1)))
  let some k <-N9 false (<-elem' (arrOf u) sb) (arrOf u) sa na 0 | return false
  let(sa,na):=(sa+k,na-k)
  if na == 0 then return true
  let some nb <-N9 true (<-elem' (arrOf u) (sa+na-1)) (arrOf u) sb nb (nb-1) | return false
  if nb == 0 then return true
  let x:=(arrOf u).extract sa sb
  let y:=(arrOf u).extract sb (sb+nb)
  let mm <-if na<=nb then Aq x y else Al x y
  modify fun v=>setArr v (mm.toList.zipIdx.foldl (fun a (z:Keyed×Nat)=>a.setIfInBounds (sa+z.2) z.1) (arrOf v))
  return(failedOf (<-get)).isNone):=rfl
theorem Rw{st st2:SortSt}{Q:PUnit->SortSt->Prop}(h:Q ⟨⟩ st2):wpS (model prog w) A E s (set st2:StateT SortSt Sem PUnit) Q st:=by
 unfold wpS;rw[StateT.run_set];exact wpAny_pure ⟨rfl,h⟩
theorem Fq(C:Cmp prog w A s κ kd){a₀:Array Keyed}(h0:KeysOf κ a₀){st:SortSt}{i sa na pw sb nb pw2:Nat}{Q:Bool->SortSt->Prop}(hS:St κ kd a₀ st)
  (hi:(pendingOf st)[i]?=some (sa,na,pw)) (hj:(pendingOf st)[i+1]?=some (sb,nb,pw2)) (hsb:sb=sa+na) (hsz:sb+nb<=a₀.size) (hna:1<=na) (hnb:1<=nb)
  (sx:Sor κ (seg (arrOf st).toList sa na)) (sy:Sor κ (seg (arrOf st).toList sb nb))
  (h:∀st',St κ kd a₀ st'->Part κ (arrOf st).toList (arrOf st').toList sa (na+nb)->Sor κ (seg (arrOf st').toList sa (na+nb)) ->
   pendingOf st' =((pendingOf st).setIfInBounds i (sa,na+nb,pw)).eraseIdxIfInBounds (i+1)->Q true st'):wpS (model prog w) A E s (mergeAt' i) Q st:=by
 subst hsb
 have hL:(arrOf st).toList.length=a₀.size:=by rw[Array.length_toList];exact hS.size
 have hsz':=hS.size
 rw[Ed]
 refine wpS_bind (wpS_get ?_)
 rw[hi,hj]
 dsimp only
 refine wpS_bind (Rw ?_)
 obtain⟨b0,hb0⟩:=T3 (a:=arrOf st) (i:=sa+na) (by omega)
 have sxl:∀u v p q,u<=v->v<na->(arrOf st)[sa+u]?=some p->(arrOf st)[sa+v]?=some q->le κ p q:=fun u v p q huv hv e1 e2 =>
  X8 sx huv (by rw[I0 (by omega)];exact ar_get.mp e1) (by rw[I0 hv];exact ar_get.mp e2)
 have syl:∀u v p q,u<=v->v<nb->(arrOf st)[sa+na+u]?=some p->(arrOf st)[sa+na+v]?=some q->le κ p q:=fun u v p q huv hv e1 e2 =>
  X8 sy huv (by rw[I0 (by omega)];exact ar_get.mp e1) (by rw[I0 hv];exact ar_get.mp e2)
 refine wpS_bind (C3 hb0 (wpS_bind (X0 C hS.kind (hS.has h0 _ _ hb0) (by omega) (hS.has h0) sxl (by omega) fun k hk1 k1 k2=>?_)))
 dsimp only
 have b0y:∀z∈seg (arrOf st).toList (sa+na) nb,le κ b0 z:=fun z hz=>by
  obtain⟨t,ht,e⟩:=Aa hz
  exact syl 0 t b0 z (by omega) ht hb0 (ar_get.mpr e)
 have xk:∀x∈(seg (arrOf st).toList sa na).take k,le κ x b0:=fun x hx=>by
  obtain⟨t,ht,ht2,e⟩:=Jc hx
  unfold seg at ht2
  rw[List.length_take]at ht2
  rw[I0 (by omega)]at e
  exact Aw (k1 t x ht (ar_get.mpr e))
 have kx:∀x∈(seg (arrOf st).toList sa na).drop k,le κ b0 x:=fun x hx=>by
  obtain⟨t,ht,e⟩:=Ez hx
  unfold seg at ht
  rw[List.length_take]at ht
  rw[I0 (by omega)]at e
  exact KeyOrd.kle_of_klt (t7 (k2 (k+t) x (by omega) (by omega) (ar_get.mpr e)))
 have S1:St κ kd a₀ (setPending st (((pendingOf st).setIfInBounds i (sa,na+nb,pw)).eraseIdxIfInBounds (i+1))):=⟨hS.perm,hS.kind,hS.failed⟩
 by_cases hk0:na-k=0
 ·rw[if_pos (by simpa using hk0)]
  have hkk:k=na:=by omega
  refine wpS_pure (h _ S1 (Part.refl _ _ _) ?_ rfl)
  show Sor κ (seg (arrOf st).toList sa (na+nb))
  rw[Fi]
  refine List.pairwise_append.mpr ⟨sx,sy,fun x hx y hy=>le_trans (xk x ?_) (b0y y hy)⟩
  rw[List.take_of_length_le (by unfold seg;rw[List.length_take];omega)]
  exact hx
 rw[if_neg (by simpa using hk0)]
 obtain⟨al,hal⟩:=T3 (a:=arrOf st) (i:=sa+k +(na-k)-1) (by omega)
 refine wpS_bind (C3 hal (wpS_bind (X0 C S1.kind (hS.has h0 _ _ hal) (by omega) (hS.has h0) syl (by omega) fun k' hk1' k1' k2'=>?_)))
 dsimp only
 have hal':(arrOf st)[sa +(na-1)]?=some al:=by rw[show sa +(na-1)=sa+k +(na-k)-1 by omega];exact hal
 have xal:∀x∈seg (arrOf st).toList sa na,le κ x al:=fun x hx=>by
  obtain⟨t,ht,e⟩:=Aa hx
  exact sxl t (na-1) x al (by omega) (by omega) (ar_get.mpr e) hal'
 have yk:∀y∈(seg (arrOf st).toList (sa+na) nb).take k',le κ y al:=fun y hy=>by
  obtain⟨t,ht,ht2,e⟩:=Jc hy
  unfold seg at ht2
  rw[List.length_take]at ht2
  rw[I0 (by omega)]at e
  exact KeyOrd.kle_of_klt (En (k1' t y ht (ar_get.mpr e)))
 have ky:∀y∈(seg (arrOf st).toList (sa+na) nb).drop k',le κ al y:=fun y hy=>by
  obtain⟨t,ht,e⟩:=Ez hy
  unfold seg at ht
  rw[List.length_take]at ht
  rw[I0 (by omega)]at e
  exact Ak (k2' (k'+t) y (by omega) (by omega) (ar_get.mpr e))
 by_cases hk0':k'=0
 ·rw[if_pos (by simpa using hk0')]
  refine wpS_pure (h _ S1 (Part.refl _ _ _) ?_ rfl)
  show Sor κ (seg (arrOf st).toList sa (na+nb))
  rw[Fi]
  refine List.pairwise_append.mpr ⟨sx,sy,fun x hx y hy=>le_trans (xal x hx) (ky y ?_)⟩
  rw[hk0',List.drop_zero]
  exact hy
 rw[if_neg (by simpa using hk0')]
 have ex:((arrOf st).extract (sa+k) (sa+na)).toList =(seg (arrOf st).toList sa na).drop k:=by
  rw[Fm]
  unfold seg
  rw[List.drop_take,List.drop_take,List.drop_drop]
  congr 1
  omega
 have ey:((arrOf st).extract (sa+na) (sa+na+k')).toList =(seg (arrOf st).toList (sa+na) nb).take k':=by
  rw[Bn]
  unfold seg
  rw[List.take_take,Nat.min_eq_left hk1']
 have P:Pre κ ((arrOf st).extract (sa+k) (sa+na)) ((arrOf st).extract (sa+na) (sa+na+k')):=by
  refine⟨by rw[ex];exact sx.sublist (List.drop_sublist _ _),by rw[ey];exact sy.sublist (List.take_sublist _ _),fun t p e=>?_,fun t p e=>?_,?_,?_,fun q e z hz=>?_,fun p e z hz=>?_⟩
  ·have m:=List.mem_of_getElem? (ar_get.mp e)
   rw[ex]at m
   obtain⟨u,_,e2⟩:=Aa (List.mem_of_mem_drop m)
   exact hS.has h0 _ p (ar_get.mpr e2)
  ·have m:=List.mem_of_getElem? (ar_get.mp e)
   rw[ey]at m
   obtain⟨u,_,e2⟩:=Aa (List.mem_of_mem_take m)
   exact hS.has h0 _ p (ar_get.mpr e2)
  ·rw[Array.size_extract];omega
  ·rw[Array.size_extract];omega
  ·have m:=ar_get.mp e
   rw[ey,List.getElem?_take_of_lt (by omega),I0 (by omega)]at m
   have:q=b0:=by
    have:=ar_get.mp hb0
    rw[Nat.add_zero,this]at m
    exact(Option.some.inj m).symm
   subst this
   rw[ex]at hz
   exact kx z hz
  ·have m:=ar_get.mp e
   rw[ex,Array.size_extract,List.getElem?_drop,I0 (by omega)]at m
   have:p=al:=by
    have q:=ar_get.mp hal'
    rw[show k +(min (sa+na) (arrOf st).size-(sa+k)-1)=na-1 by omega,q]at m
    exact(Option.some.inj m).symm
   subst this
   rw[ey]at hz
   exact yk z hz
 have fin:∀(r:Array Keyed) (st2:SortSt),Sm (setPending st (((pendingOf st).setIfInBounds i (sa,na+nb,pw)).eraseIdxIfInBounds (i+1))) st2->Rm κ ((arrOf st).extract (sa+k) (sa+na)) ((arrOf st).extract (sa+na) (sa+na+k')) r ->
   Q (failedOf (setArr st2 (r.toList.zipIdx.foldl (fun a (z:Keyed×Nat)=>a.setIfInBounds (sa+k+z.2) z.1) (arrOf st2)))).isNone (setArr st2 (r.toList.zipIdx.foldl (fun a (z:Keyed×Nat)=>a.setIfInBounds (sa+k+z.2) z.1) (arrOf st2))):=by
  rintro r st2 ⟨q1,q2,q3,q4⟩ ⟨r1,r2⟩
  rw[ex,ey]at r2
  have hrl:r.toList.length =(na-k)+k':=by
   rw[r2.length_eq,List.length_append]
   unfold seg
   rw[List.length_drop,List.length_take,List.length_take,List.length_drop,List.length_take,List.length_drop]
   omega
  have q2':arrOf st2=arrOf st:=q2
  have ef:failedOf (setArr st2 (r.toList.zipIdx.foldl (fun a (z:Keyed×Nat)=>a.setIfInBounds (sa+k+z.2) z.1) (arrOf st2)))=none:=q4.trans hS.failed
  rw[ef]
  have el:=v9 r.toList (sa+k) (arrOf st2) (by rw[q2'];omega)
  have eq:(r.toList.zipIdx.foldl (fun a (z:Keyed×Nat)=>a.setIfInBounds (sa+k+z.2) z.1) (arrOf st2)).toList =(arrOf st).toList.take sa ++((seg (arrOf st).toList sa na).take k++r.toList ++(seg (arrOf st).toList (sa+na) nb).drop k') ++(arrOf st).toList.drop (sa +(na+nb)):=by
   rw[el,q2',hrl]
   have e1:(arrOf st).toList.take (sa+k) =(arrOf st).toList.take sa ++(seg (arrOf st).toList sa na).take k:=by
    unfold seg
    rw[List.take_add,List.take_take,Nat.min_eq_left hk1]
   have e2:(arrOf st).toList.drop (sa+k +(na-k+k')) =(seg (arrOf st).toList (sa+na) nb).drop k' ++(arrOf st).toList.drop (sa +(na+nb)):=by
    unfold seg
    rw[List.drop_take,List.drop_drop,show sa+k +(na-k+k')=sa+na+k' by omega]
    conv=>lhs;rw[<-List.take_append_drop (nb-k') ((arrOf st).toList.drop (sa+na+k'))]
    rw[List.drop_drop,show sa+na+k' +(nb-k')=sa +(na+nb) by omega]
   rw[e1,e2]
   simp only[List.append_assoc]
  have hp:((seg (arrOf st).toList sa na).take k++r.toList ++(seg (arrOf st).toList (sa+na) nb).drop k').Perm (seg (arrOf st).toList sa (na+nb)):=by
   rw[Fi]
   have a1:((seg (arrOf st).toList sa na).take k++r.toList ++(seg (arrOf st).toList (sa+na) nb).drop k').Perm ((seg (arrOf st).toList sa na).take k ++((seg (arrOf st).toList sa na).drop k ++(seg (arrOf st).toList (sa+na) nb).take k') ++(seg (arrOf st).toList (sa+na) nb).drop k') :=
    List.Perm.append_right _ (List.Perm.append_left _ r2)
   refine a1.trans (List.Perm.of_eq ?_)
   rw[<-List.append_assoc,List.take_append_drop,List.append_assoc,List.take_append_drop]
  obtain⟨pa,ps⟩:=Part.of (κ:=κ) hp (by rw[hL];omega)
  have hs:Sor κ ((seg (arrOf st).toList sa na).take k++r.toList ++(seg (arrOf st).toList (sa+na) nb).drop k'):=by
   refine List.pairwise_append.mpr ⟨List.pairwise_append.mpr ⟨sx.sublist (List.take_sublist _ _),r1,fun x hx y hy=>?_⟩,sy.sublist (List.drop_sublist _ _),fun x hx y hy=>?_⟩
   ·rcases List.mem_append.mp (r2.mem_iff.mp hy)with hy | hy
    ·exact le_trans (xk x hx) (kx y hy)
    ·exact le_trans (xk x hx) (b0y y (List.mem_of_mem_take hy))
   ·rcases List.mem_append.mp hx with hx | hx
    ·exact le_trans (xal x (List.mem_of_mem_take hx)) (ky y hy)
    ·rcases List.mem_append.mp (r2.mem_iff.mp hx)with hx | hx
     ·exact le_trans (xal x (List.mem_of_mem_drop hx)) (ky y hy)
     ·exact le_trans (yk x hx) (ky y hy)
  refine h _ ⟨?_,q1.trans hS.kind,q4.trans hS.failed⟩ ?_ ?_ q3
  ·show(r.toList.zipIdx.foldl (fun a (z:Keyed×Nat)=>a.setIfInBounds (sa+k+z.2) z.1) (arrOf st2)).toList.Perm a₀.toList
   rw[eq]
   exact pa.perm.trans hS.perm
  ·show Part κ (arrOf st).toList (r.toList.zipIdx.foldl (fun a (z:Keyed×Nat)=>a.setIfInBounds (sa+k+z.2) z.1) (arrOf st2)).toList sa (na+nb)
   rw[eq]
   exact pa
  ·show Sor κ (seg (r.toList.zipIdx.foldl (fun a (z:Keyed×Nat)=>a.setIfInBounds (sa+k+z.2) z.1) (arrOf st2)).toList sa (na+nb))
   rw[eq,ps]
   exact hs
 by_cases hab:na-k<=k'
 ·rw[if_pos hab]
  refine wpS_bind (Fb C S1.kind P fun r st2 q r1=>?_)
  exact wpS_bind (wpS_modify (wpS_bind (wpS_get (wpS_pure (fin r st2 q r1)))))
 ·rw[if_neg hab]
  refine wpS_bind (Ej C S1.kind P fun r st2 q r1=>?_)
  exact wpS_bind (wpS_modify (wpS_bind (wpS_get (wpS_pure (fin r st2 q r1)))))
end
section
variable{prog:Program}{w:World}{A:Around}{E:Value->Shared->Prop}{s:Shared}{κ:KeyKind}{kd:SortKind}{a₀:Array Keyed}
theorem Ow{xs:Array Keyed}{i:Nat}{p:Keyed}(h:xs[i]?=some p):KK κ xs i=kk κ p:=by unfold KK kk;rw[h]
noncomputable def SI(κ:KeyKind)(xs:Array Keyed)(lo m:Nat):Prop:=∀i j,i<=j->j<m->κ.kle (KK κ xs (lo+i)) (KK κ xs (lo+j))
noncomputable def NI(κ:KeyKind)(xs:Array Keyed)(lo m:Nat):Prop:=∀i j,i<=j->j<m->κ.kle (KK κ xs (lo+j)) (KK κ xs (lo+i))
theorem SI.sor{xs:Array Keyed}{lo m:Nat}(h:SI κ xs lo m):Sor κ (seg xs.toList lo m):=by
 refine List.pairwise_iff_getElem.mpr fun i j hi hj hij=>?_
 unfold seg at hi hj
 rw[List.length_take]at hi hj
 have e1:xs[lo+i]?=some (seg xs.toList lo m)[i]:=by
  rw[ar_get,<-I0 (n:=m) (by omega)]
  exact List.getElem?_eq_getElem _
 have e2:xs[lo+j]?=some (seg xs.toList lo m)[j]:=by
  rw[ar_get,<-I0 (n:=m) (by omega)]
  exact List.getElem?_eq_getElem _
 have:=h i j (by omega) (by omega)
 rw[Ow e1,Ow e2]at this
 exact this
structure Lo(κ:KeyKind)(kd:SortKind)(a₀:Array Keyed)(st0:SortSt)(lo n:Nat)(st:SortSt):Prop where
 S:St κ kd a₀ st
 pend:pendingOf st=pendingOf st0
 out:∀t,t<lo\/lo+n<=t->(arrOf st)[t]? =(arrOf st0)[t]?
theorem Lo.part{st0 st:SortSt}{lo n:Nat}(h:Lo κ kd a₀ st0 lo n st)(h0:St κ kd a₀ st0):Part κ (arrOf st0).toList (arrOf st).toList lo n:=by
 refine⟨h.S.perm.trans h0.perm.symm,List.ext_getElem? fun t=>?_,List.ext_getElem? fun t=>?_⟩
 ·by_cases ht:t<lo
  ·rw[List.getElem?_take_of_lt ht,List.getElem?_take_of_lt ht,Array.getElem?_toList,Array.getElem?_toList]
   exact h.out t (.inl ht)
  ·rw[List.getElem?_eq_none (by rw[List.length_take];omega),List.getElem?_eq_none (by rw[List.length_take];omega)]
 ·rw[List.getElem?_drop,List.getElem?_drop,Array.getElem?_toList,Array.getElem?_toList]
  exact h.out _ (.inr (by omega))
theorem Lo.mirror{st0 st:SortSt}{lo n i j:Nat}(h:Lo κ kd a₀ st0 lo n st)(hi:lo<=i)(hj:j<=lo+n)(hn:lo+n<=a₀.size):Lo κ kd a₀ st0 lo n (setArr st (mirror (arrOf st) i j ((j-i) / 2))):=by
 refine⟨⟨(Array.perm_iff_toList_perm.mp (mirror_perm _ _ _ _)).trans h.S.perm,h.S.kind,h.S.failed⟩,h.pend,fun t ht=>?_⟩
 show(PyProof.Rows.mirror (arrOf st) i j ((j-i) / 2))[t]?=_
 have:=h.S.size
 rw[getElem?_mirror_all (by omega),if_neg (by omega)]
 exact h.out t ht
theorem K1(C:Cmp prog w A s κ kd)(h0:KeysOf κ a₀){st:SortSt}(hS:St κ kd a₀ st){i j:Nat}{Q:Option Bool->SortSt->Prop}(hi:i<a₀.size)(hj:j<a₀.size)
  (h:Q (some (κ.blt (KK κ (arrOf st) i) (KK κ (arrOf st) j))) st):wpS (model prog w) A E s (ltAt' i j) Q st:=by
 have:=hS.size
 obtain⟨p,hp⟩:=T3 (a:=arrOf st) (i:=i) (by omega)
 obtain⟨q,hq⟩:=T3 (a:=arrOf st) (i:=j) (by omega)
 rw[ltAt'_eq]
 refine wpS_bind (wpS_get ?_)
 refine wpS_bind (C3 hp (wpS_bind (C3 hq (Bw C hS.kind (hS.has h0 _ _ hp) (hS.has h0 _ _ hq) ?_))))
 rw[Ow hp,Ow hq]at h
 exact h
theorem Uh{st:SortSt}{lo a nrem:Nat}{f:Nat->(Option (Option Nat)×Nat)->StateT SortSt Sem (ForInStep (Option (Option Nat)×Nat))}{Q:(Option (Option Nat)×Nat)->SortSt->Prop}
  (hf:∀x n,1<=n->n<nrem->wpS (model prog w) A E s (f x (none,n)) (fun r st'=>st'=st/\r=if κ.blt (KK κ (arrOf st) (lo+n)) (KK κ (arrOf st) (lo+n-1))=true then .done (none,n)else .yield (none,n+1)) st)
  (ha:1<=a) (han:a<=nrem) (hs:SI κ (arrOf st) lo a)
  (h:∀n,a<=n->n<=nrem->SI κ (arrOf st) lo n->(n=nrem\/κ.klt (KK κ (arrOf st) (lo+n)) (KK κ (arrOf st) (lo+n-1)))->Q (none,n) st):wpS (model prog w) A E s (forIn [a:nrem] (none,a) f) Q st:=by
 refine wpS_forRange (I:=fun x c st'=>st'=st/\c =(none,x)/\SI κ (arrOf st) lo x) ?_ ?_ ⟨rfl,rfl,hs⟩
 ·rintro x c st' hax hxn ⟨rfl,rfl,hs'⟩
  refine wpS_mono (hf x x (by omega) hxn) fun r st2 ⟨e,er⟩=>?_
  subst e
  cases hless:κ.blt (KK κ (arrOf st2) (lo+x)) (KK κ (arrOf st2) (lo+x-1))
  ·rw[hless,if_neg Bool.false_ne_true]at er
   subst er
   refine⟨rfl,rfl,fun i j hij hj=>?_⟩
   by_cases hjx:j<x
   ·exact hs' i j hij hjx
   ·have hj':j=x:=by omega
    subst hj'
    by_cases hi':i=j
    ·subst hi';exact KeyOrd.kle_refl _
    ·have:=hs' i (j-1) (by omega) (by omega)
     rw[show lo +(j-1)=lo+j-1 by omega]at this
     exact KeyOrd.kle_trans this hless
  ·rw[hless,if_pos rfl]at er
   subst er
   exact h x hax (by omega) hs' (.inr hless)
 ·rintro c st' ⟨rfl,rfl,hs'⟩
  rw[show max a nrem=nrem by omega]at hs'⊢
  exact h nrem han (Nat.le_refl _) hs' (.inl rfl)
theorem NI.step{xs ys:Array Keyed}{lo x:Nat}(hx:1<=x)(hk:∀k,KK κ ys k=KK κ xs k)(hs:NI κ xs lo x)(hl:κ.kle (KK κ xs (lo+x)) (KK κ xs (lo+x-1))):NI κ ys lo (x+1):=by
 intro i j hij hj
 rw[hk,hk]
 by_cases hjx:j<x
 ·exact hs i j hij hjx
 ·have hj':j=x:=by omega
  subst hj'
  by_cases hi':i=j
  ·subst hi';exact KeyOrd.kle_refl _
  ·have:=hs i (j-1) (by omega) (by omega)
   rw[show lo +(j-1)=lo+j-1 by omega]at this
   exact KeyOrd.kle_trans hl this
noncomputable abbrev DS:=Option (Option Nat)×Nat×Nat
theorem Uw{st0 st:SortSt}{lo n nrem:Nat}(hsz:lo+nrem<=a₀.size){f:Nat->DS->StateT SortSt Sem (ForInStep DS)}{Q:DS->SortSt->Prop}
  (hf:∀x n q st',1<=n->n<nrem->Lo κ kd a₀ st0 lo nrem st'->wpS (model prog w) A E s (f x (none,n,q)) (fun r st2 =>
   if κ.blt (KK κ (arrOf st') (lo+n)) (KK κ (arrOf st') (lo+n-1))=true then(st2=if q>0 then setArr st' (mirror (arrOf st') (lo+n-(q+1)) (lo+n) ((lo+n-(lo+n-(q+1))) / 2))else st')/\r = .yield (none,n+1,0)
   else st2=st'/\r=if κ.blt (KK κ (arrOf st') (lo+n-1)) (KK κ (arrOf st') (lo+n))=true then .done (none,n,q)else .yield (none,n+1,q+1)) st')
  (h1:1<=n) (hnn:n<=nrem) (hB:Lo κ kd a₀ st0 lo nrem st) (hs:NI κ (arrOf st) lo n)
  (h:∀m q st',Lo κ kd a₀ st0 lo nrem st'->n<=m->m<=nrem->NI κ (arrOf st') lo m->q+1<=m->(∀i,m-(q+1)<=i->i<m->KK κ (arrOf st') (lo+i)=KK κ (arrOf st') (lo+m-1))->Q (none,m,q) st') :
  wpS (model prog w) A E s (forIn [n:nrem] (none,n,0) f) Q st:=by
 refine wpS_forRange (I:=fun x c st'=>∃q,c =(none,x,q)/\Lo κ kd a₀ st0 lo nrem st'/\NI κ (arrOf st') lo x/\q+1<=x /\
   (∀i,x-(q+1)<=i->i<x->KK κ (arrOf st') (lo+i)=KK κ (arrOf st') (lo+x-1))) ?_ ?_ ⟨0,rfl,hB,hs,by omega,fun i h1 h2=>by congr 1;omega⟩
 ·rintro x c st' hax hxn ⟨q,rfl,hB',hs',hq,he⟩
  have hs0:=hB'.S.size
  refine wpS_mono (hf x x q st' (by omega) hxn hB') fun r st2 hr=>?_
  cases hless:κ.blt (KK κ (arrOf st') (lo+x)) (KK κ (arrOf st') (lo+x-1))
  ·rw[hless,if_neg Bool.false_ne_true]at hr
   obtain⟨e,er⟩:=hr
   subst e
   cases hl:κ.blt (KK κ (arrOf st2) (lo+x-1)) (KK κ (arrOf st2) (lo+x))
   ·rw[hl,if_neg Bool.false_ne_true]at er
    subst er
    have heqx:KK κ (arrOf st2) (lo+x)=KK κ (arrOf st2) (lo+x-1):=KeyOrd.kle_antisymm hl hless
    refine⟨q+1,rfl,hB',NI.step (by omega) (fun _=>rfl) hs' hl,by omega,fun i g1 g2=>?_⟩
    rw[show lo +(x+1)-1=lo+x by omega]
    by_cases hix:i=x
    ·subst hix;rfl
    ·rw[heqx];exact he i (by omega) (by omega)
   ·rw[hl,if_pos rfl]at er
    subst er
    exact h x q st2 hB' hax (by omega) hs' hq he
  ·rw[hless,if_pos rfl]at hr
   obtain⟨e,er⟩:=hr
   subst er
   have hl:κ.kle (KK κ (arrOf st') (lo+x)) (KK κ (arrOf st') (lo+x-1)):=KeyOrd.kle_of_klt hless
   by_cases hq0:q>0
   ·rw[if_pos hq0]at e
    subst e
    refine⟨0,rfl,hB'.mirror (by omega) (by omega) hsz,NI.step (by omega) (KK_mirror_equal (by omega) fun k g1 g2=>?_) hs' hl,by omega,fun i g1 g2=>by congr 1;omega⟩
    have:=he (k-lo) (by omega) (by omega)
    rw[show lo +(k-lo)=k by omega]at this
    exact this
   ·rw[if_neg hq0]at e
    subst e
    exact⟨0,rfl,hB',NI.step (by omega) (fun _=>rfl) hs' hl,by omega,fun i g1 g2=>by congr 1;omega⟩
 ·rintro c st' ⟨q,rfl,hB',hs',hq,he⟩
  rw[show max n nrem=nrem by omega]at hs' hq he⊢
  exact h nrem q st' hB' hnn (Nat.le_refl _) hs' hq he
theorem NI.turn{xs:Array Keyed}{lo n:Nat}(hn:lo+n<=xs.size)(h:NI κ xs lo n):SI κ (mirror xs lo (lo+n) ((lo+n-lo) / 2)) lo n:=by
 intro i j hij hj
 rw[KK_mirror hn,KK_mirror hn,if_pos (by omega),if_pos (by omega)]
 have:=h (n-1-j) (n-1-i) (by omega) (by omega)
 rw[show lo +(n-1-i)=lo +(lo+n)-1-(lo+i) by omega,show lo +(n-1-j)=lo +(lo+n)-1-(lo+j) by omega]at this
 exact this
theorem Cc(C:Cmp prog w A s κ kd)(h0:KeysOf κ a₀){st:SortSt}{lo nrem:Nat}{Q:Option Nat->SortSt->Prop}(hS:St κ kd a₀ st)(hsz:lo+nrem<=a₀.size)(h1:1<=nrem)
  (h:∀m st',Lo κ kd a₀ st lo nrem st'->1<=m->m<=nrem->SI κ (arrOf st') lo m->Q (some m) st'):wpS (model prog w) A E s (countRun' lo nrem) Q st:=by
 have L0:Lo κ kd a₀ st lo nrem st:=⟨hS,rfl,fun _ _=>rfl⟩
 rw[countRun'_eq]
 dsimp only
 refine wpS_bind (Uh (κ:=κ) (lo:=lo) (fun x n g1 g2=>?_) (Nat.le_refl 1) h1 (fun i j hij hj=>by have:i=j:=(by omega);subst this;exact KeyOrd.kle_refl _) fun n hn1 hn2 hsn hor=>?_)
 ·dsimp only
  refine wpS_bind (K1 C h0 hS (by omega) (by omega) ?_)
  dsimp only
  cases κ.blt (KK κ (arrOf st) (lo+n)) (KK κ (arrOf st) (lo+n-1))
  ·exact wpS_pure ⟨rfl,rfl⟩
  ·exact wpS_pure ⟨rfl,rfl⟩
 dsimp only
 by_cases hnn:n=nrem
 ·rw[if_pos (by simpa using hnn)]
  exact wpS_pure (h n st L0 hn1 hn2 hsn)
 rw[if_neg (by simpa using hnn)]
 have hlt:κ.klt (KK κ (arrOf st) (lo+n)) (KK κ (arrOf st) (lo+n-1)):=hor.resolve_left hnn
 have hz:=hS.size
 by_cases hgt:n>1
 ·rw[if_pos hgt]
  refine wpS_bind (K1 C h0 hS (by omega) (by omega) ?_)
  dsimp only
  cases hrose:κ.blt (KK κ (arrOf st) lo) (KK κ (arrOf st) (lo+n-1))with
  | true =>
   simp only[if_true]
   exact wpS_pure (h n st L0 hn1 hn2 hsn)
  | false =>
   simp only[Bool.false_eq_true,if_false]
   have hall:∀k,lo<=k->k<lo+n->KK κ (arrOf st) k=KK κ (arrOf st) (lo+n-1):=by
    intro k hk1 hk2
    have a1:=hsn 0 (k-lo) (by omega) (by omega)
    have a2:=hsn (k-lo) (n-1) (by omega) (by omega)
    rw[Nat.add_zero,show lo +(k-lo)=k by omega]at a1
    rw[show lo +(k-lo)=k by omega,show lo +(n-1)=lo+n-1 by omega]at a2
    exact KeyOrd.kle_antisymm a2 (KeyOrd.kle_trans hrose a1)
   have hk:=KK_mirror_equal (κ:=κ) (xs:=arrOf st) (i:=lo) (j:=lo+n) (by omega) hall
   refine wpS_bind (wpS_reverse ?_)
   have hB2:=L0.mirror (i:=lo) (j:=lo+n) (by omega) (by omega) hsz
   have hN:NI κ (mirror (arrOf st) lo (lo+n) ((lo+n-lo) / 2)) lo (n+1):=by
    refine NI.step (by omega) hk (fun i j hij hj=>?_) (KeyOrd.kle_of_klt hlt)
    rw[hall (lo+i) (by omega) (by omega),hall (lo+j) (by omega) (by omega)]
    exact KeyOrd.kle_refl _
   refine wpS_bind (wpS_lift (wpAny_rule ⟨rfl,?_⟩))
   refine wpS_bind (Uw (κ:=κ) (kd:=kd) (a₀:=a₀) (st0:=st) (lo:=lo) hsz (fun x n' q st' g1 g2 hB'=>?_) (by omega) (by omega) hB2 hN fun m q st' hB3 hm1 hm2 hs3 hq he=>?_)
   ·dsimp only
    refine wpS_bind (K1 C h0 hB'.S (by omega) (by omega) ?_)
    dsimp only
    cases κ.blt (KK κ (arrOf st') (lo+n')) (KK κ (arrOf st') (lo+n' - 1))
    ·simp only[Bool.false_eq_true,if_false]
     refine wpS_bind (K1 C h0 hB'.S (by omega) (by omega) ?_)
     dsimp only
     cases κ.blt (KK κ (arrOf st') (lo+n' - 1)) (KK κ (arrOf st') (lo+n'))
     ·exact wpS_pure ⟨rfl,rfl⟩
     ·exact wpS_pure ⟨rfl,rfl⟩
    ·simp only[if_true]
     by_cases hq:q>0
     ·rw[if_pos hq,if_pos hq]
      exact wpS_bind (wpS_reverse (wpS_pure ⟨rfl,rfl⟩))
     ·rw[if_neg hq,if_neg hq]
      exact wpS_pure ⟨rfl,rfl⟩
   ·dsimp only
    have hz3:=hB3.S.size
    by_cases hq0:q>0
    ·rw[if_pos hq0]
     refine wpS_bind (wpS_reverse (wpS_bind (wpS_reverse ?_)))
     have hB4':=hB3.mirror (i:=lo+m-(q+1)) (j:=lo+m) (by omega) (by omega) hsz
     have hB4:=hB4'.mirror (i:=lo) (j:=lo+m) (by omega) (by omega) hsz
     have hz4:=hB4'.S.size
     have hN4:NI κ (mirror (arrOf st') (lo+m-(q+1)) (lo+m) ((lo+m-(lo+m-(q+1))) / 2)) lo m:=by
      have hk:=KK_mirror_equal (κ:=κ) (xs:=arrOf st') (i:=lo+m-(q+1)) (j:=lo+m) (by omega) (fun k g1 g2=>by
       have:=he (k-lo) (by omega) (by omega)
       rw[show lo +(k-lo)=k by omega]at this
       exact this)
      intro i j hij hj
      rw[hk,hk]
      exact hs3 i j hij hj
     have hT:=hN4.turn (κ:=κ) (lo:=lo) (n:=m) (by rw[mirror_size];omega)
     refine wpS_bind (Uh (κ:=κ) (lo:=lo) (fun x n' g1 g2=>?_) (by omega) hm2 hT fun m' hm1' hm2' hsm _=>wpS_pure (h m' _ hB4 (by omega) hm2' hsm))
     dsimp only
     refine wpS_bind (K1 C h0 hB4.S (by omega) (by omega) ?_)
     dsimp only
     cases κ.blt (KK κ _ (lo+n')) (KK κ _ (lo+n' - 1))
     ·exact wpS_pure ⟨rfl,rfl⟩
     ·exact wpS_pure ⟨rfl,rfl⟩
    ·rw[if_neg hq0]
     refine wpS_bind (wpS_reverse ?_)
     have hB4:=hB3.mirror (i:=lo) (j:=lo+m) (by omega) (by omega) hsz
     have hT:=hs3.turn (κ:=κ) (lo:=lo) (n:=m) (by omega)
     refine wpS_bind (Uh (κ:=κ) (lo:=lo) (fun x n' g1 g2=>?_) (by omega) hm2 hT fun m' hm1' hm2' hsm _=>wpS_pure (h m' _ hB4 (by omega) hm2' hsm))
     dsimp only
     refine wpS_bind (K1 C h0 hB4.S (by omega) (by omega) ?_)
     dsimp only
     cases κ.blt (KK κ _ (lo+n')) (KK κ _ (lo+n' - 1))
     ·exact wpS_pure ⟨rfl,rfl⟩
     ·exact wpS_pure ⟨rfl,rfl⟩
 ·rw[if_neg hgt]
  have hn1':n=1:=by omega
  have hB2:=L0
  have hN:NI κ (arrOf st) lo (n+1):=by
   refine NI.step (by omega) (fun _=>rfl) (fun i j hij hj=>?_) (KeyOrd.kle_of_klt hlt)
   have:i=j:=by omega
   subst this;exact KeyOrd.kle_refl _
  refine wpS_bind (wpS_lift (wpAny_rule ⟨rfl,?_⟩))
  refine wpS_bind (Uw (κ:=κ) (kd:=kd) (a₀:=a₀) (st0:=st) (lo:=lo) hsz (fun x n' q st' g1 g2 hB'=>?_) (by omega) (by omega) hB2 hN fun m q st' hB3 hm1 hm2 hs3 hq he=>?_)
  ·dsimp only
   refine wpS_bind (K1 C h0 hB'.S (by omega) (by omega) ?_)
   dsimp only
   cases κ.blt (KK κ (arrOf st') (lo+n')) (KK κ (arrOf st') (lo+n' - 1))
   ·simp only[Bool.false_eq_true,if_false]
    refine wpS_bind (K1 C h0 hB'.S (by omega) (by omega) ?_)
    dsimp only
    cases κ.blt (KK κ (arrOf st') (lo+n' - 1)) (KK κ (arrOf st') (lo+n'))
    ·exact wpS_pure ⟨rfl,rfl⟩
    ·exact wpS_pure ⟨rfl,rfl⟩
   ·simp only[if_true]
    by_cases hq:q>0
    ·rw[if_pos hq,if_pos hq]
     exact wpS_bind (wpS_reverse (wpS_pure ⟨rfl,rfl⟩))
    ·rw[if_neg hq,if_neg hq]
     exact wpS_pure ⟨rfl,rfl⟩
  ·dsimp only
   have hz3:=hB3.S.size
   by_cases hq0:q>0
   ·rw[if_pos hq0]
    refine wpS_bind (wpS_reverse (wpS_bind (wpS_reverse ?_)))
    have hB4':=hB3.mirror (i:=lo+m-(q+1)) (j:=lo+m) (by omega) (by omega) hsz
    have hB4:=hB4'.mirror (i:=lo) (j:=lo+m) (by omega) (by omega) hsz
    have hz4:=hB4'.S.size
    have hN4:NI κ (mirror (arrOf st') (lo+m-(q+1)) (lo+m) ((lo+m-(lo+m-(q+1))) / 2)) lo m:=by
     have hk:=KK_mirror_equal (κ:=κ) (xs:=arrOf st') (i:=lo+m-(q+1)) (j:=lo+m) (by omega) (fun k g1 g2=>by
      have:=he (k-lo) (by omega) (by omega)
      rw[show lo +(k-lo)=k by omega]at this
      exact this)
     intro i j hij hj
     rw[hk,hk]
     exact hs3 i j hij hj
    have hT:=hN4.turn (κ:=κ) (lo:=lo) (n:=m) (by rw[mirror_size];omega)
    refine wpS_bind (Uh (κ:=κ) (lo:=lo) (fun x n' g1 g2=>?_) (by omega) hm2 hT fun m' hm1' hm2' hsm _=>wpS_pure (h m' _ hB4 (by omega) hm2' hsm))
    dsimp only
    refine wpS_bind (K1 C h0 hB4.S (by omega) (by omega) ?_)
    dsimp only
    cases κ.blt (KK κ _ (lo+n')) (KK κ _ (lo+n' - 1))
    ·exact wpS_pure ⟨rfl,rfl⟩
    ·exact wpS_pure ⟨rfl,rfl⟩
   ·rw[if_neg hq0]
    refine wpS_bind (wpS_reverse ?_)
    have hB4:=hB3.mirror (i:=lo) (j:=lo+m) (by omega) (by omega) hsz
    have hT:=hs3.turn (κ:=κ) (lo:=lo) (n:=m) (by omega)
    refine wpS_bind (Uh (κ:=κ) (lo:=lo) (fun x n' g1 g2=>?_) (by omega) hm2 hT fun m' hm1' hm2' hsm _=>wpS_pure (h m' _ hB4 (by omega) hm2' hsm))
    dsimp only
    refine wpS_bind (K1 C h0 hB4.S (by omega) (by omega) ?_)
    dsimp only
    cases κ.blt (KK κ _ (lo+n')) (KK κ _ (lo+n' - 1))
    ·exact wpS_pure ⟨rfl,rfl⟩
    ·exact wpS_pure ⟨rfl,rfl⟩
theorem Lo.bubble{st0 st:SortSt}{lo n src d:Nat}(h:Lo κ kd a₀ st0 lo n st)(h1:lo+d<=src)(h2:src<lo+n)(hn:lo+n<=a₀.size):Lo κ kd a₀ st0 lo n (setArr st (bubble (arrOf st) src d)):=by
 refine⟨⟨(Array.perm_iff_toList_perm.mp (bubble_perm _ _ _)).trans h.S.perm,h.S.kind,h.S.failed⟩,h.pend,fun t ht=>?_⟩
 show(PyProof.Rows.bubble (arrOf st) src d)[t]?=_
 have:=h.S.size
 rw[getElem?_bubble (by omega) d (by omega),if_neg (by omega),if_neg (by omega)]
 exact h.out t ht
theorem u7(C:Cmp prog w A s κ kd)(h0:KeysOf κ a₀){st0 st:SortSt}{lo nrem n ok:Nat}{Q:Bool->SortSt->Prop}(hB:Lo κ kd a₀ st0 lo nrem st)(hsz:lo+nrem<=a₀.size)(hn:n<=nrem)(hok:ok<=n)(hs:SI κ (arrOf st) lo ok)
  (h:∀st',Lo κ kd a₀ st0 lo nrem st'->SI κ (arrOf st') lo n->Q true st'):wpS (model prog w) A E s (binarySort' lo n ok) Q st:=by
 rw[binarySort'_eq]
 refine wpS_bind (wpS_mono (wpS_forRange (I:=fun k c st'=>c =(none,())/\Lo κ kd a₀ st0 lo nrem st'/\SI κ (arrOf st') lo (min k n))
  (Q:=fun c st'=>c =(none,())/\Lo κ kd a₀ st0 lo nrem st'/\SI κ (arrOf st') lo n) ?step ?fin ?init) ?post)
 case post =>
  rintro c st' ⟨rfl,hB',hs'⟩
  exact wpS_pure (h st' hB' hs')
 case init =>
  refine⟨rfl,hB,fun i j hij hj=>?_⟩
  by_cases h1:ok=0
  ·have:i=j:=by omega
   subst this;exact KeyOrd.kle_refl _
  ·exact hs i j hij (by omega)
 case fin =>
  rintro c st' ⟨hc,hB',hs'⟩
  refine⟨hc,hB',?_⟩
  rwa [show min (max (max ok 1) n) n=n by omega]at hs'
 case step =>
  rintro k c st' hak hkn ⟨rfl,hB',hs'⟩
  rw[show min k n=k by omega]at hs'
  dsimp only
  refine wpS_bind (wpS_mono (wpS_forRange (I:=fun x c st''=>st''=st'/\∃l r,c =(none,l,r)/\l<=r/\r<=k/\r-l<=k-x /\
    (∀i,i<l->κ.kle (KK κ (arrOf st') (lo+i)) (KK κ (arrOf st') (lo+k)))/\(∀i,r<=i->i<k->κ.klt (KK κ (arrOf st') (lo+k)) (KK κ (arrOf st') (lo+i))))
   (Q:=fun c st''=>st''=st'/\∃l r,c =(none,l,r)/\l<=k /\
    (∀i,i<l->κ.kle (KK κ (arrOf st') (lo+i)) (KK κ (arrOf st') (lo+k)))/\(∀i,l<=i->i<k->κ.klt (KK κ (arrOf st') (lo+k)) (KK κ (arrOf st') (lo+i)))) ?istep ?ifin ?iinit) ?ipost)
  case iinit=>exact⟨rfl,0,k,rfl,by omega,by omega,by omega,fun i hi=>by omega,fun i h1 h2=>by omega⟩
  case ifin =>
   rintro c st'' ⟨rfl,l,r,rfl,hlr,hrk,hm,hlo,hhi⟩
   have:l=r:=by omega
   subst this
   exact⟨rfl,l,l,rfl,hrk,hlo,hhi⟩
  case istep =>
   rintro x c st'' _ hxk ⟨rfl,l,r,rfl,hlr,hrk,hm,hlo,hhi⟩
   dsimp only
   by_cases hge:l ≥ r
   ·rw[if_pos hge]
    have:l=r:=by omega
    subst this
    exact wpS_pure ⟨rfl,l,l,rfl,hrk,hlo,hhi⟩
   ·rw[if_neg hge]
    refine wpS_bind (K1 C h0 hB'.S (by omega) (by omega) ?_)
    dsimp only
    cases hless:κ.blt (KK κ (arrOf st'') (lo+k)) (KK κ (arrOf st'') (lo +(l+r) / 2))
    case true =>
     simp only[if_true]
     refine wpS_pure ⟨rfl,l,(l+r) / 2,rfl,by omega,by omega,by omega,hlo,fun i h1 h2=>?_⟩
     exact KeyOrd.klt_of_klt_of_kle hless (hs' _ _ h1 h2)
    case false =>
     simp only[Bool.false_eq_true,if_false]
     refine wpS_pure ⟨rfl,(l+r) / 2+1,r,rfl,by omega,by omega,by omega,fun i h1=>?_,hhi⟩
     exact KeyOrd.kle_trans (hs' i ((l+r) / 2) (by omega) (by omega)) (show κ.kle _ _ from hless)
  case ipost =>
   rintro c st'' ⟨rfl,l,r,rfl,hlk,hlo,hhi⟩
   have hz:=hB'.S.size
   show wpS _ _ _ _ (do moveDown' (lo+k) (lo+l);pure (ForInStep.yield (none,()))) _ _
   rw[moveDown'_eq]
   refine wpS_bind (wpS_modify (wpS_pure ⟨rfl,hB'.bubble (by omega) (by omega) hsz,?_⟩))
   rw[show min (k+1) n=k+1 by omega]
   intro i j hij hj
   show κ.kle (KK κ (bubble (arrOf st'') (lo+k) (lo+k-(lo+l))) (lo+i)) (KK κ (bubble (arrOf st'') (lo+k) (lo+k-(lo+l))) (lo+j))
   rw[KK_bubble (by omega) (by omega),KK_bubble (by omega) (by omega),show lo+k-(lo+k-(lo+l))=lo+l by omega]
   have shift:∀z,1<=z->lo+z-1=lo +(z-1):=fun z _=>by omega
   repeat' split
   all_goals first
    | (exfalso;omega)
    | exact KeyOrd.kle_refl _
    | exact hlo _ (by omega)
    | exact KeyOrd.kle_of_klt (hhi _ (by omega) (by omega))
    | exact hs' _ _ (by omega) (by omega)
    | (rw[shift j (by omega)];exact KeyOrd.kle_of_klt (hhi _ (by omega) (by omega)))
    | (rw[shift i (by omega)];exact hlo _ (by omega))
    | (rw[shift j (by omega)];exact hs' _ _ (by omega) (by omega))
    | (rw[shift i (by omega),shift j (by omega)];exact hs' _ _ (by omega) (by omega))
    | (rw[shift i (by omega)];exact hs' _ _ (by omega) (by omega))
end
noncomputable abbrev Run:=Nat×Nat×Nat
noncomputable def Cov:List Run->Nat->Nat->Prop
 | [],a,b=>a=b
 | x::r,a,b=>x.1=a/\1<=x.2.1/\Cov r (a+x.2.1) b
theorem Cov.app:∀{l1 l2:List Run} {a b:Nat},Cov (l1++l2) a b↔∃c,Cov l1 a c/\Cov l2 c b
 | [],l2,a,b=>⟨fun h=>⟨a,rfl,h⟩,fun⟨c,h1,h2⟩=>by have:a=c:=h1;subst this;exact h2⟩
 | x::r,l2,a,b=>by
  constructor
  ·rintro⟨h1,h2,h3⟩
   obtain⟨c,h4,h5⟩:=Cov.app.mp h3
   exact⟨c,⟨h1,h2,h4⟩,h5⟩
  ·rintro⟨c,⟨h1,h2,h4⟩,h5⟩
   exact⟨h1,h2,Cov.app.mpr ⟨c,h4,h5⟩⟩
theorem Cov.le:∀{l:List Run} {a b:Nat},Cov l a b->a+l.length<=b
 | [],a,b,h=>by have:a=b:=h;subst this;simp
 | x::r,a,b,⟨h1,h2,h3⟩=>by have:=Cov.le h3;rw[List.length_cons];omega
theorem Cov.mem:∀{l:List Run} {a b:Nat} {x:Run},Cov l a b->x∈l->a<=x.1/\x.1+x.2.1<=b
 | [],_,_,_,_,hx=>absurd hx (by simp)
 | y::r,a,b,x,⟨h1,h2,h3⟩,hx=>by
  have hl:=Cov.le h3
  rcases List.mem_cons.mp hx with e | hx
  ·subst e;omega
  ·have:=Cov.mem h3 hx;omega
theorem Yb{l:List Run}{i:Nat}{x y:Run}(hx:l[i]?=some x)(hy:l[i+1]?=some y):l=l.take i++x::y::l.drop (i+2):=by
 obtain⟨h1,rfl⟩:=List.getElem?_eq_some_iff.mp hx
 obtain⟨h2,rfl⟩:=List.getElem?_eq_some_iff.mp hy
 conv=>lhs;rw[<-List.take_append_drop i l]
 rw[List.drop_eq_getElem_cons h1,List.drop_eq_getElem_cons h2]
theorem Wx{l:List Run}{i:Nat}{x y:Run}(z:Run)(hx:l[i]?=some x)(hy:l[i+1]?=some y):(l.set i z).eraseIdx (i+1)=l.take i++z::l.drop (i+2):=by
 obtain⟨h1,_⟩:=List.getElem?_eq_some_iff.mp hx
 obtain⟨h2,_⟩:=List.getElem?_eq_some_iff.mp hy
 have e:=Yb hx hy
 have hl:(l.take i).length=i:=by rw[List.length_take];omega
 generalize l.take i=p at *
 generalize l.drop (i+2)=q at *
 subst e
 rw[List.set_append_right _ _ (by omega),hl,Nat.sub_self,List.eraseIdx_append_of_length_le (by omega),hl,show i+1-i=1 by omega]
 rfl
section
variable{prog:Program}{w:World}{A:Around}{E:Value->Shared->Prop}{s:Shared}{κ:KeyKind}{kd:SortKind}{a₀:Array Keyed}
structure RI(κ:KeyKind)(kd:SortKind)(a₀:Array Keyed)(lo:Nat)(st:SortSt):Prop where
 S:St κ kd a₀ st
 cov:Cov (pendingOf st).toList 0 lo
 sor:∀x∈(pendingOf st).toList,Sor κ (seg (arrOf st).toList x.1 x.2.1)
theorem El(C:Cmp prog w A s κ kd)(h0:KeysOf κ a₀){st:SortSt}{lo i:Nat}{Q:Bool->SortSt->Prop}(R:RI κ kd a₀ lo st)(hlo:lo<=a₀.size)(hi:i+1 <(pendingOf st).size)
  (h:∀st',RI κ kd a₀ lo st'->(pendingOf st').size+1 =(pendingOf st).size->Part κ (arrOf st).toList (arrOf st').toList 0 lo->Q true st'):wpS (model prog w) A E s (mergeAt' i) Q st:=by
 obtain⟨⟨sa,na,pw⟩,hx⟩:∃x,(pendingOf st)[i]?=some x:=⟨_,getElem?_pos _ i (by omega)⟩
 obtain⟨⟨sb,nb,pw2⟩,hy⟩:∃x,(pendingOf st)[i+1]?=some x:=⟨_,getElem?_pos _ (i+1) hi⟩
 have hx':(pendingOf st).toList[i]?=some (sa,na,pw):=by rw[Array.getElem?_toList];exact hx
 have hy':(pendingOf st).toList[i+1]?=some (sb,nb,pw2):=by rw[Array.getElem?_toList];exact hy
 have e:=Yb hx' hy'
 have c:=R.cov
 rw[e]at c
 obtain⟨c0,c1,c2⟩:=Cov.app.mp c
 obtain⟨d1,d2,d3,d4,d5⟩:=c2
 dsimp only at d1 d2 d3 d4 d5
 have hl5:=Cov.le d5
 refine Fq C h0 R.S hx hy (by omega) (by omega) d2 d4 (R.sor _ (List.mem_of_getElem? hx')) (R.sor _ (List.mem_of_getElem? hy')) fun st' S' P' s' p'=>?_
 have ep:(pendingOf st').toList =(pendingOf st).toList.take i ++(sa,na+nb,pw) ::(pendingOf st).toList.drop (i+2):=by
  rw[p',<-Wx (sa,na+nb,pw) hx' hy']
  simp
 refine h st' ⟨S',?_,fun x hxm=>?_⟩ ?_ ?_
 ·rw[ep]
  exact Cov.app.mpr ⟨c0,c1,d1,(by show 1<=na+nb;omega),(by show Cov _ (c0 +(na+nb)) lo;rw[<-Nat.add_assoc];exact d5)⟩
 ·rw[ep]at hxm
  have old:∀y∈(pendingOf st).toList,(y.1+y.2.1<=sa\/sa +(na+nb)<=y.1)->Sor κ (seg (arrOf st').toList y.1 y.2.1):=fun y hy ho=>by
   have:=R.sor y hy
   rcases ho with ho | ho
   ·rw[P'.seg_front ho];exact this
   ·rw[P'.seg_back ho];exact this
  rcases List.mem_append.mp hxm with hm | hm
  ·have:=Cov.mem c1 hm
   exact old x (List.mem_of_mem_take hm) (.inl (by omega))
  ·rcases List.mem_cons.mp hm with hm | hm
   ·subst hm
    exact s'
   ·have:=Cov.mem d5 hm
    exact old x (List.mem_of_mem_drop hm) (.inr (by omega))
 ·have:=congrArg List.length ep
  rw[Array.length_toList,List.length_append,List.length_cons,List.length_take,List.length_drop,Array.length_toList]at this
  omega
 ·have hb:∀z:List Keyed,z.drop (0+lo) =(z.drop (sa +(na+nb))).drop (lo-(sa +(na+nb))):=fun z=>by
   rw[List.drop_drop];congr 1;omega
  exact⟨P'.perm,rfl,by rw[hb,hb,P'.back]⟩
theorem b9{l:Array Run}{pw:Nat}:(l.modify (l.size-1) fun x=>(x.1,x.2.1,pw)).toList.map (fun x:Run=>(x.1,x.2.1))=l.toList.map fun x:Run=>(x.1,x.2.1):=by
 refine List.ext_getElem? fun t=>?_
 rw[List.getElem?_map,List.getElem?_map,Array.getElem?_toList,Array.getElem?_toList,Array.getElem?_modify]
 split
 ·cases l[t]?<;>rfl
 ·rfl
theorem Cov.congr:∀{l l':List Run} {a b:Nat},l'.map (fun x:Run=>(x.1,x.2.1))=l.map (fun x:Run=>(x.1,x.2.1))->Cov l a b->Cov l' a b
 | [],[],_,_,_,h=>h
 | [],_::_,_,_,e,_=>by simp at e
 | _::_,[],_,_,e,_=>by simp at e
 | x::r,y::r',a,b,e,⟨h1,h2,h3⟩=>by
  rw[List.map_cons,List.map_cons]at e
  obtain⟨e1,e2⟩:=List.cons.inj e
  obtain⟨e3,e4⟩:=Prod.mk.inj e1
  exact⟨e3.trans h1,by rw[e4];exact h2,by rw[e4];exact Cov.congr e2 h3⟩
theorem RI.congr{lo:Nat}{st:SortSt}(R:RI κ kd a₀ lo st){p:Array Run}(e:p.toList.map (fun x:Run=>(x.1,x.2.1)) =(pendingOf st).toList.map fun x:Run=>(x.1,x.2.1)):RI κ kd a₀ lo (setPending st p):=by
 refine⟨⟨R.S.perm,R.S.kind,R.S.failed⟩,Cov.congr e R.cov,fun x hx=>?_⟩
 have:(x.1,x.2.1)∈(pendingOf st).toList.map fun x:Run=>(x.1,x.2.1):=by
  rw[<-e]
  exact List.mem_map.mpr ⟨x,hx,rfl⟩
 obtain⟨y,hy,ey⟩:=List.mem_map.mp this
 obtain⟨e1,e2⟩:=Prod.mk.inj ey
 have:=R.sor y hy
 rw[e1,e2]at this
 exact this
theorem V2(C:Cmp prog w A s κ kd)(h0:KeysOf κ a₀){st:SortSt}{Q:Unit->SortSt->Prop}(hS:St κ kd a₀ st)(hp:pendingOf st = #[])
  (h:∀st',St κ kd a₀ st'->Sor κ (arrOf st').toList->Q () st'):wpS (model prog w) A E s sortRuns' Q st:=by
 rw[sortRuns'_eq]
 refine wpS_bind (wpS_get ?_)
 dsimp only
 have hz:=hS.size
 rw[hz]
 generalize minRun' a₀.size a₀.size 0=mr
 refine wpS_bind (wpS_mono (wpS_forRange (I:=fun x c st'=>∃lo,c =(none,lo)/\RI κ kd a₀ lo st'/\lo<=a₀.size/\min x a₀.size<=lo)
  (Q:=fun c st'=>∃lo,c =(none,lo)/\RI κ kd a₀ lo st'/\lo=a₀.size) ?st ?en ⟨0,rfl,⟨hS,by rw[hp];rfl,fun x hx=>by rw[hp]at hx;exact absurd hx (by simp)⟩,Nat.zero_le _,by omega⟩) ?po)
 case en =>
  rintro c st' ⟨lo,rfl,R,h1,h2⟩
  exact⟨lo,rfl,R,by omega⟩
 case po =>
  rintro c st' ⟨lo,rfl,R,rfl⟩
  dsimp only
  refine wpS_bind (wpS_mono (wpS_forRange (I:=fun x c st'=>c =(none,())/\RI κ kd a₀ a₀.size st'/\(pendingOf st').size+x<=a₀.size+1)
   (Q:=fun c st'=>c =(none,())/\RI κ kd a₀ a₀.size st'/\(pendingOf st').size<=1) ?st3 ?en3 ⟨rfl,R,?in3⟩) ?po3)
  case in3 =>
   have:=Cov.le R.cov
   rw[Array.length_toList]at this
   omega
  case en3 =>
   rintro c st2 ⟨rfl,R2,g⟩
   exact⟨rfl,R2,by omega⟩
  case po3 =>
   rintro c st2 ⟨rfl,R2,g⟩
   refine wpS_pure (h st2 R2.S ?_)
   have c:=R2.cov
   have so:=R2.sor
   have hz2:=R2.S.size
   have hl:(pendingOf st2).toList.length<=1:=by rw[Array.length_toList];exact g
   generalize (pendingOf st2).toList=l at c so hl
   match l,c,so,hl with
   | [],c,_,_ =>
    have c':0=a₀.size:=c
    have:(arrOf st2).toList = []:=List.eq_nil_of_length_eq_zero (by rw[Array.length_toList];omega)
    rw[this]
    exact List.Pairwise.nil
   | [x],⟨c1,c2,c3⟩,so,_ =>
    have c3':0+x.2.1=a₀.size:=c3
    have:=so x (List.mem_singleton.mpr rfl)
    unfold seg at this
    rw[c1,List.drop_zero,List.take_of_length_le (by rw[Array.length_toList];omega)]at this
    exact this
   | _::_::_,_,_,hl=>exact absurd hl (by simp)
  case st3 =>
   rintro x c st2 _ hx ⟨rfl,R2,g⟩
   try dsimp only
   refine wpS_bind (wpS_get ?_)
   by_cases hle:(pendingOf st2).size<=1
   ·rw[if_pos hle]
    exact wpS_pure ⟨rfl,R2,hle⟩
   rw[if_neg hle]
   refine wpS_bind (El C h0 R2 (Nat.le_refl _) ?_ fun st3 R3 e3 _=>?_)
   ·have hi2:∀{c:Prop} [Decidable c] {n:Nat},(if c then n-1 else n)+1<=n+1:=by intro c _ n;split<;>omega
    exact Nat.lt_of_le_of_lt hi2 (by omega)
   ·simp only[Bool.not_true,Bool.false_eq_true,if_false]
    exact wpS_pure ⟨rfl,R3,by omega⟩
 case st =>
  rintro x c st' _ hx ⟨lo,rfl,R,h1,h2⟩
  dsimp only
  by_cases hge:lo ≥ a₀.size
  ·rw[if_pos hge]
   exact wpS_pure ⟨lo,rfl,R,by omega⟩
  rw[if_neg hge]
  refine wpS_bind (Cc C h0 R.S (by omega) (by omega) fun m st2 L2 hm1 hm2 hs2=>?_)
  dsimp only
  by_cases hmr:m<mr
  ·rw[if_pos hmr]
   refine wpS_bind (wpS_lift (wpAny_rule ⟨rfl,?_⟩))
   refine wpS_bind (u7 C h0 L2 (by omega) (show min (a₀.size-lo) mr<=a₀.size-lo by omega) (by omega) hs2 fun st5 L5 s5=>?_)
   simp only[Bool.not_true,Bool.false_eq_true,if_false]
   have hN:1<=min (a₀.size-lo) mr/\min (a₀.size-lo) mr<=a₀.size-lo:=by omega
   generalize min (a₀.size-lo) mr=N at hN s5⊢
   have R5:RI κ kd a₀ lo st5:=by
    refine⟨L5.S,by rw[L5.pend];exact R.cov,fun y hy=>?_⟩
    rw[L5.pend]at hy
    have hc:=Cov.mem R.cov hy
    rw[(L5.part R.S).seg_front (by omega)]
    exact R.sor y hy
   refine wpS_bind (wpS_get ?_)
   have push:∀(st6:SortSt),RI κ kd a₀ lo st6->Sor κ (seg (arrOf st6).toList lo N)->RI κ kd a₀ (lo+N) (setPending st6 ((pendingOf st6).push (lo,N,0))):=fun st6 R6 s6=>by
    refine⟨⟨R6.S.perm,R6.S.kind,R6.S.failed⟩,?_,fun y hy=>?_⟩
    ·show Cov ((pendingOf st6).push (lo,N,0)).toList 0 (lo+N)
     rw[Array.toList_push]
     exact Cov.app.mpr ⟨lo,R6.cov,rfl,(by show 1<=N;omega),rfl⟩
    ·have hy':y∈((pendingOf st6).push (lo,N,0)).toList:=hy
     rw[Array.toList_push]at hy'
     rcases List.mem_append.mp hy' with hy' | hy'
     ·exact R6.sor y hy'
     ·rw[List.mem_singleton.mp hy']
      exact s6
   cases hbk:(pendingOf st5).back? with
   | none =>
    dsimp only
    refine wpS_bind (wpS_modify (wpS_pure ⟨_,rfl,push _ R5 s5.sor,by omega,by omega⟩))
   | some bk =>
    obtain⟨s1,n1,pb⟩:=bk
    dsimp only
    generalize power' a₀.size (2*s1+n1) (2*s1+n1+n1+N) a₀.size=pw
    refine wpS_bind (wpS_mono (wpS_forRange (I:=fun x c st6=>c =(none,())/\RI κ kd a₀ lo st6/\Part κ (arrOf st5).toList (arrOf st6).toList 0 lo)
     (Q:=fun c st6=>c =(none,())/\RI κ kd a₀ lo st6/\Part κ (arrOf st5).toList (arrOf st6).toList 0 lo) ?stc1 (fun _ _ z=>z) ⟨rfl,R5,Part.refl _ _ _⟩) ?poc1)
    case stc1 =>
     rintro x' c st6 _ _ ⟨rfl,R6,P6⟩
     try dsimp only
     refine wpS_bind (wpS_get ?_)
     by_cases hp1:(pendingOf st6).size>1
     ·rw[if_pos hp1]
      obtain⟨⟨u1,u2,ol⟩,hu⟩:∃y,(pendingOf st6)[(pendingOf st6).size-2]?=some y:=⟨_,getElem?_pos _ _ (by omega)⟩
      rw[hu]
      dsimp only
      by_cases hol:ol<=pw
      ·rw[if_pos hol]
       exact wpS_pure ⟨rfl,R6,P6⟩
      rw[if_neg hol]
      refine wpS_bind (El C h0 R6 h1 (by omega) fun st7 R7 _ P7=>?_)
      simp only[Bool.not_true,Bool.false_eq_true,if_false]
      exact wpS_pure ⟨rfl,R7,⟨P7.perm.trans P6.perm,rfl,P7.back.trans P6.back⟩⟩
     ·rw[if_neg hp1]
      exact wpS_pure ⟨rfl,R6,P6⟩
    case poc1 =>
     rintro c st6 ⟨rfl,R6,P6⟩
     dsimp only
     refine wpS_bind (wpS_modify (wpS_bind (wpS_modify (wpS_pure ⟨_,rfl,push _ (R6.congr b9) ?_,by omega,by omega⟩))))
     show Sor κ (seg (arrOf st6).toList lo N)
     rw[P6.seg_back (by omega)]
     exact s5.sor
  ·rw[if_neg hmr]
   have R5:RI κ kd a₀ lo st2:=by
    refine⟨L2.S,by rw[L2.pend];exact R.cov,fun y hy=>?_⟩
    rw[L2.pend]at hy
    have hc:=Cov.mem R.cov hy
    rw[(L2.part R.S).seg_front (by omega)]
    exact R.sor y hy
   refine wpS_bind (wpS_get ?_)
   have push:∀(st6:SortSt),RI κ kd a₀ lo st6->Sor κ (seg (arrOf st6).toList lo m)->RI κ kd a₀ (lo+m) (setPending st6 ((pendingOf st6).push (lo,m,0))):=fun st6 R6 s6=>by
    refine⟨⟨R6.S.perm,R6.S.kind,R6.S.failed⟩,?_,fun y hy=>?_⟩
    ·show Cov ((pendingOf st6).push (lo,m,0)).toList 0 (lo+m)
     rw[Array.toList_push]
     exact Cov.app.mpr ⟨lo,R6.cov,rfl,(by show 1<=m;omega),rfl⟩
    ·have hy':y∈((pendingOf st6).push (lo,m,0)).toList:=hy
     rw[Array.toList_push]at hy'
     rcases List.mem_append.mp hy' with hy' | hy'
     ·exact R6.sor y hy'
     ·rw[List.mem_singleton.mp hy']
      exact s6
   cases hbk:(pendingOf st2).back? with
   | none =>
    dsimp only
    refine wpS_bind (wpS_modify (wpS_pure ⟨_,rfl,push _ R5 hs2.sor,by omega,by omega⟩))
   | some bk =>
    obtain⟨s1,n1,pb⟩:=bk
    dsimp only
    generalize power' a₀.size (2*s1+n1) (2*s1+n1+n1+m) a₀.size=pw
    refine wpS_bind (wpS_mono (wpS_forRange (I:=fun x c st6=>c =(none,())/\RI κ kd a₀ lo st6/\Part κ (arrOf st2).toList (arrOf st6).toList 0 lo)
     (Q:=fun c st6=>c =(none,())/\RI κ kd a₀ lo st6/\Part κ (arrOf st2).toList (arrOf st6).toList 0 lo) ?stc2 (fun _ _ z=>z) ⟨rfl,R5,Part.refl _ _ _⟩) ?poc2)
    case stc2 =>
     rintro x' c st6 _ _ ⟨rfl,R6,P6⟩
     try dsimp only
     refine wpS_bind (wpS_get ?_)
     by_cases hp1:(pendingOf st6).size>1
     ·rw[if_pos hp1]
      obtain⟨⟨u1,u2,ol⟩,hu⟩:∃y,(pendingOf st6)[(pendingOf st6).size-2]?=some y:=⟨_,getElem?_pos _ _ (by omega)⟩
      rw[hu]
      dsimp only
      by_cases hol:ol<=pw
      ·rw[if_pos hol]
       exact wpS_pure ⟨rfl,R6,P6⟩
      rw[if_neg hol]
      refine wpS_bind (El C h0 R6 h1 (by omega) fun st7 R7 _ P7=>?_)
      simp only[Bool.not_true,Bool.false_eq_true,if_false]
      exact wpS_pure ⟨rfl,R7,⟨P7.perm.trans P6.perm,rfl,P7.back.trans P6.back⟩⟩
     ·rw[if_neg hp1]
      exact wpS_pure ⟨rfl,R6,P6⟩
    case poc2 =>
     rintro c st6 ⟨rfl,R6,P6⟩
     dsimp only
     refine wpS_bind (wpS_modify (wpS_bind (wpS_modify (wpS_pure ⟨_,rfl,push _ (R6.congr b9) ?_,by omega,by omega⟩))))
     show Sor κ (seg (arrOf st6).toList lo m)
     rw[P6.seg_back (by omega)]
     exact hs2.sor
end
noncomputable def kd1(κ:KeyKind)(v:Value):κ.α:=(κ.keyOf v).getD κ.dflt
section
variable{prog:Program}{w:World}{A:Around}{E:Value->Shared->Prop}{s:Shared}{κ:KeyKind}{kd:SortKind}
noncomputable def Ext(a:Addr)(s s':Shared):Prop:=∀b o,b≠a->s.heap.get? b=some o->s'.heap.get? b=some o
structure Keys(prog:Program)(w:World)(a:Addr)(s:Shared)(κ:KeyKind)(kd:SortKind)(vs:List Value):Prop where
 cmp:∀(A:Around) (s':Shared),Ext a s s'->Cmp prog w A s' κ kd
 key:∀v∈vs,∃k,κ.keyOf v=some k
 kind:2<=vs.length->∀(A:Around) (E:Value->Shared->Prop) (s':Shared) (Q:SortKind->Shared->Prop),Ext a s s'->Q kd s'->wpAny (model prog w) A (keyKind' vs.toArray) Q E s'
noncomputable def Out(κ:KeyKind)(vs:List Value)(out:Array Value):Prop:=out.toList.Perm vs/\out.toList.Pairwise fun u v=>κ.kle (kd1 κ u) (kd1 κ v)
theorem Hq{vs:List Value}{xs:Array Keyed}(hp:xs.toList.Perm (pairsOf vs).toList)(hs:Sor κ xs.toList):Out κ vs (xs.map (·.2)):=by
 rw[pairsOf_toList]at hp
 have hm:∀p∈xs.toList,p.1=p.2:=fun p h=>(mem_zip_self (hp.mem_iff.mp h)).1
 have e:(xs.map (·.2)).toList=xs.toList.map (·.1):=by
  rw[Array.toList_map];exact List.map_congr_left fun p h=>(hm p h).symm
 refine⟨?_,?_⟩
 ·rw[e]
  have:=hp.map Prod.fst
  rwa [List.map_fst_zip (Nat.le_refl _)]at this
 ·rw[e,List.pairwise_map]
  exact hs
theorem Bi{a:Addr}{vs:List Value}{n:Nat}{P:Fin->Shared->Prop}(ho:s.heap.get? a=some (seqObj "list" vs.toArray n))(hz:vs.length<=sizeLine)(K:Keys prog w a s κ kd vs)
  (h:∀out:Array Value,Out κ vs out->P (.done (.ret .none)) { s with heap:=sortedHeap s.heap a vs out }) :
  wpAny (model prog w) A (Builtin.«list.sort» ⟨[.ref a],[]⟩) P E s:=by
 rw[list_sort_plain]
 have ha:a<s.heap.objs.size:=Heap.lt_size ho
 have hsz:vs.toArray.size=vs.length:=by simp
 refine wpAny_bind (listItems_at ho rfl ?_)
 refine wpAny_bind (listUpdate_at ho rfl ?_ (by rw[hsz];exact hz) (by simp))
 obtain⟨e1,ho1⟩:∃e1,(s.heap.update a (Obj.mapSeq fun _=>#[])).get? a=some (seqObj "list" #[] e1):=⟨_,get?_update_seq ho (fun _=>#[])⟩
 refine wpAny_bind (seqEpoch_at ho1 rfl ?_)
 refine wpAny_bind (wpAny_newTuple ?_ (by simpa using hz))
 refine wpAny_bind (wpAny_newList ?_)
 refine wpAny_holding ?_
 have ho6:(((s.heap.update a (Obj.mapSeq fun _=>#[])).push (seqObj "tuple" vs.toArray 0)).push (seqObj "list" #[] 0)).get? a=some (seqObj "list" #[] e1):=by
  rw[Heap.get?_push_ne _ _ _ (by rw[size_push',Heap.size_update];exact Nat.ne_of_lt (Nat.lt_succ_of_lt ha)),Heap.get?_push_ne _ _ _ (by rw[Heap.size_update];exact Nat.ne_of_lt ha)]
  exact ho1
 show wpAny (model prog w) A _ P E { s with heap:=((s.heap.update a (Obj.mapSeq fun _=>#[])).push (seqObj "tuple" vs.toArray 0)).push (seqObj "list" #[] 0) }
 dsimp only
 have hE:Ext a s { s with heap:=((s.heap.update a (Obj.mapSeq fun _=>#[])).push (seqObj "tuple" vs.toArray 0)).push (seqObj "list" #[] 0) }:=fun b o hb e =>
  Heap.get?_push_of_some _ (Heap.get?_push_of_some _ ((Heap.get?_update_other s.heap _ (Ne.symm hb)).trans e))
 by_cases h2:vs.toArray.size<2
 ·rw[if_pos h2,if_pos h2]
  refine wpAny_bind (wpAny_pure ?_)
  rw[StateT.run_pure]
  refine wpAny_bind (wpAny_pure ?_)
  dsimp only
  refine wpAny_bind (seqEpoch_at ho6 rfl ?_)
  refine wpAny_bind (listUpdate_at ho6 rfl ?_ (by simp) (by rw[Array.size_map];show(pairsOf vs).size<=_;rw[pairsOf_size];omega))
  simp only[bne_self_eq_false,Bool.false_eq_true,if_false]
  refine wpAny_pure (h _ (Hq (κ:=κ) (xs:=pairsOf vs) (List.Perm.refl _) ?_))
  rw[pairsOf_toList]
  rw[hsz]at h2
  match vs,h2 with
  | [],_=>exact List.Pairwise.nil
  | [v],_=>exact List.pairwise_singleton _ _
  | _::_::_,h2=>simp at h2;omega
 ·rw[if_neg h2,if_neg h2]
  refine wpAny_bind (K.kind (by omega) A E _ _ hE ?_)
  refine wpAny_bind (wpAny_mono (V2 (K.cmp A _ hE) (a₀:=pairsOf vs) (st:=SortSt.mk' kd (vs.toArray.zip vs.toArray) #[] 7 none)
   (Q:=fun _ st'=>St κ kd (pairsOf vs) st'/\Sor κ (arrOf st').toList)
   (fun p hp=>?_) ⟨List.Perm.refl _,rfl,rfl⟩ rfl fun st' a1 a2=>⟨a1,a2⟩) ?_ fun _ _ e=>e)
  ·rw[pairsOf_toList]at hp
   exact K.key _ (mem_zip_self hp).2
  rintro⟨⟨⟩,st'⟩ s' ⟨rfl,hp,hs⟩
  dsimp only
  refine wpAny_bind (seqEpoch_at ho6 rfl ?_)
  refine wpAny_bind (listUpdate_at ho6 rfl ?_ (by simp) (by rw[Array.size_map];show(arrOf st').size<=_;rw[hp.size,pairsOf_size];omega))
  rw[show failedOf st'=none from hp.failed]
  simp only[bne_self_eq_false,Bool.false_eq_true,if_false]
  exact wpAny_pure (h _ (Hq hp.perm hs))
theorem sorted_gen{x:Value}{Q:Value->Shared->Prop}
  (hc:wpAny (model prog w) A.in1 (collect x) (fun vs s1=>s1.os=s.os/\vs.length<=sizeLine/\(∃(κ:KeyKind) (kd:SortKind),(∀s2:Shared,Ext s1.heap.objs.size s1 s2->Keys prog w s1.heap.objs.size s2 κ kd vs) /\
   ∀(out:Array Value) (h':Heap) (e:Nat),Out κ vs out->(∀b o,s1.heap.get? b=some o->h'.get? b=some o)->h'.get? s1.heap.objs.size=some (seqObj "list" out e)->Q (.ref s1.heap.objs.size) { s1 with heap:=h' })) E s) :
  wpAny (model prog w) A (call (.builtin "sorted") [x]) Q E s:=by
 refine Calls.call_function_entry kind_sorted plain_sorted entry_sorted (args_sorted1 _) ?_
 unfold Builtin.«sorted»
 refine wpAny_bind (m:=checkCount "sorted" 1 1 _) (wpAny_pure ?_)
 refine wpAny_bind (wpAny_mono hc (fun vs s1 ⟨eos,hz,κ,kd,K,q⟩=>?_) fun _ _ z=>z)
 refine wpAny_bind (wpAny_newList ?_)
 have hoL:(s1.heap.push (seqObj "list" vs.toArray 0)).get? s1.heap.objs.size=some (seqObj "list" vs.toArray 0):=Heap.get?_push_size _ rfl
 show wpAny _ _ _ _ _ { s1 with heap:=s1.heap.push (seqObj "list" vs.toArray 0) }
 have hE:Ext s1.heap.objs.size s1 { s1 with heap:=s1.heap.push (seqObj "list" vs.toArray 0) }:=fun b o _ e=>Heap.get?_push_of_some _ e
 refine wpAny_bind (wpAny_holding (wpAny_call_entry slot_list_sort ⟨_,hoL,rfl⟩ entry_list_sort (Bi (s:={ s1 with heap:=s1.heap.push (seqObj "list" vs.toArray 0) }) hoL hz (K _ hE) fun out ho=>⟨_,rfl,?_⟩) (args_list_sort _)))
 obtain⟨e,he⟩:=sortedHeap_at (h:=s1.heap.push (seqObj "list" vs.toArray 0)) (out:=out) hoL
 refine wpAny_pure ⟨_,rfl,q out _ e ho (fun b o eb=>?_) he⟩
 have hlt:=Heap.lt_size eb
 rw[sortedHeap_old (Nat.ne_of_lt hlt) (by rw[size_push'];exact Nat.lt_succ_of_lt hlt)]
 exact Heap.get?_push_of_some _ eb
theorem keys_strs{a:Addr}{vs:List Value}{ss:List Str}(hS:StrsAre vs ss):Keys prog w a s strKind oneType' vs:=by
 refine⟨fun A s' _=>⟨fun x y k l Q E hx hy q=>?_⟩,fun v hv=>?_,fun h2 A E s' Q _ q=>?_⟩
 ·rw[keyLt'_oneType]
  exact strKind_oneLt prog w A E s' x y k l hx hy q
 ·obtain⟨x,t,rfl⟩:=hS.all v hv
  exact⟨_,rfl⟩
 ·match vs,h2,hS with
  | v1::v2::r,_,hS =>
   rw[keyKind_strs hS]
   exact wpAny_pure q
noncomputable def pairLt(a b:List Nat×List Nat):Bool:=decide (a.1<b.1)||(decide (a.1=b.1)&&decide (a.2<b.2))
theorem pairLt_iff{a b:List Nat×List Nat}:pairLt a b=true↔a.1<b.1\/(a.1=b.1/\a.2<b.2):=by
 unfold pairLt
 simp
theorem tri(a b:List Nat):a<b\/a=b\/b<a:=by
 by_cases h:a<b
 ·exact .inl h
 ·by_cases h':b<a
  ·exact .inr (.inr h')
  ·exact .inr (.inl (List.le_antisymm (List.not_lt.mp h') (List.not_lt.mp h)))
noncomputable def Jj:List Value->Option (List Nat×List Nat)
 | [.str x _,.str y _]=>some (x.cps.toList,y.cps.toList)
 | _=>none
noncomputable def Jh(c:Value):Data->Option (List Nat×List Nat)
 | .seq xs _=>if c = .type "tuple" then Jj xs.toList else none
 | _=>none
noncomputable def pairOf(h:Heap):Value->Option (List Nat×List Nat)
 | .ref p=>(h.get? p).bind fun o=>Jh o.cls o.data
 | _=>none
@[reducible] noncomputable def pairKind(h:Heap):KeyKind where
 α:=List Nat×List Nat
 blt:=pairLt
 irrefl a:=by
  rw[Bool.eq_false_iff]
  intro z
  rcases pairLt_iff.mp z with z | ⟨_,z⟩
  ·exact List.lt_irrefl _ z
  ·exact List.lt_irrefl _ z
 trans a b c h1 h2:=by
  rw[pairLt_iff]at *
  rcases h1 with h1 | ⟨h1,h1'⟩
  ·rcases h2 with h2 | ⟨h2,_⟩
   ·exact .inl (List.lt_trans h1 h2)
   ·exact .inl (h2▸h1)
  ·rcases h2 with h2 | ⟨h2,h2'⟩
   ·exact .inl (h1▸h2)
   ·exact .inr ⟨h1.trans h2,List.lt_trans h1' h2'⟩
 negTrans a b c h:=by
  rw[pairLt_iff]at h
  simp only[pairLt_iff]
  rcases h with h | ⟨h,h'⟩
  ·rcases tri a.1 b.1 with q | q | q
   ·exact .inl (.inl q)
   ·exact .inr (.inl (q▸h))
   ·exact .inr (.inl (List.lt_trans q h))
  ·rcases tri a.1 b.1 with q | q | q
   ·exact .inl (.inl q)
   ·rcases tri a.2 b.2 with r | r | r
    ·exact .inl (.inr ⟨q,r⟩)
    ·exact .inr (.inr ⟨q▸h,r▸h'⟩)
    ·exact .inr (.inr ⟨q▸h,List.lt_trans r h'⟩)
   ·exact .inr (.inl (h▸q))
 total a b h1 h2:=by
  rw[Bool.eq_false_iff]at h1 h2
  rcases tri a.1 b.1 with q | q | q
  ·exact absurd (pairLt_iff.mpr (.inl q)) h1
  ·rcases tri a.2 b.2 with r | r | r
   ·exact absurd (pairLt_iff.mpr (.inr ⟨q,r⟩)) h1
   ·exact Prod.ext q r
   ·exact absurd (pairLt_iff.mpr (.inr ⟨q.symm,r⟩)) h2
  ·exact absurd (pairLt_iff.mpr (.inl q)) h2
 keyOf:=pairOf h
 dflt:=([],[])
noncomputable def PairAt(h:Heap)(v:Value)(x y:Str):Prop:=∃p o n t u,v = .ref p/\h.get? p=some o/\o.cls = .type "tuple"/\o.data = .seq #[.str x t,.str y u] n
theorem PairAt.key{h:Heap}{v:Value}{x y:Str}(z:PairAt h v x y):pairOf h v=some (x.cps.toList,y.cps.toList):=by
 obtain⟨p,o,n,t,u,rfl,e,c,d⟩:=z
 show(h.get? p).bind (fun o=>Jh o.cls o.data)=_
 rw[e]
 show Jh o.cls o.data=_
 rw[d,c]
 unfold Jh
 exact(if_pos rfl).trans rfl
theorem Vw{l:List Value}{k:List Nat×List Nat}(e:Jj l=some k):∃x t y u,l = [.str x t,.str y u]:=by
 match l,e with
 | [.str x t,.str y u],_=>exact⟨x,t,y,u,rfl⟩
theorem Mi{h:Heap}{v:Value}{k:List Nat×List Nat}(e:pairOf h v=some k):∃x y,PairAt h v x y:=by
 match v,e with
 | .ref p,e =>
  have e':(h.get? p).bind (fun o=>Jh o.cls o.data)=some k:=e
  obtain⟨o,ho,es⟩:=Option.bind_eq_some_iff.mp e'
  cases d:o.data with
  | seq xs n =>
   rw[d]at es
   have es':(if o.cls = .type "tuple" then Jj xs.toList else none)=some k:=es
   by_cases c:o.cls = .type "tuple"
   ·rw[if_pos c]at es'
    obtain⟨x,t,y,u,el⟩:=Vw es'
    refine⟨x,y,p,o,n,t,u,rfl,ho,c,?_⟩
    rw[d]
    have:xs = #[.str x t,.str y u]:=by rw[<-Array.toList_inj,el]
    rw[this]
   ·rw[if_neg c]at es';cases es'
  | _=>rw[d]at es;cases es
theorem Gk{h:Heap}{v:Value}{k:List Nat×List Nat}{x y:Str}(z:PairAt h v x y)(e:pairOf h v=some k):k =(x.cps.toList,y.cps.toList):=by
 rw[z.key]at e
 exact(Option.some.inj e).symm
theorem keys_pairs{a:Addr}{vs:List Value}{h0:Heap}(hv:∀v∈vs,∃x y,PairAt h0 v x y)(hk:∀b o,h0.get? b=some o->b≠a/\s.heap.get? b=some o) :
  Keys prog w a s (pairKind h0) (tuples' true) vs:=by
 refine⟨fun A s' hE=>⟨fun x y k l Q E hx hy q=>?_⟩,fun v hvm=>?_,fun h2 A E s' Q hE q=>?_⟩
 ·obtain⟨x1,x2,zx⟩:=Mi hx
  obtain⟨y1,y2,zy⟩:=Mi hy
  have ek:=Gk zx hx
  have el:=Gk zy hy
  subst ek el
  obtain⟨px,ox,nx,t1,u1,rfl,e1,_,d1⟩:=zx
  obtain⟨py,oy,ny,t2,u2,rfl,e2,_,d2⟩:=zy
  have f1:=hE _ _ (hk _ _ e1).1 (hk _ _ e1).2
  have f2:=hE _ _ (hk _ _ e2).1 (hk _ _ e2).2
  refine PySem.W.kat_lt f1 d1 f2 d2 ?_
  show PySem.W.KatLex prog w A true _ Q [(.str x1 t1,.str y1 t2),(.str x2 u1,.str y2 u2)] 0 s'
  refine PySem.W.kat_cons (wpAny_eqBool_str (PySem.W.kat_go (fun he=>?_) fun he=>?_))
  ·have he:x1=y1:=by simpa using he
   refine PySem.W.kat_yes (PySem.W.kat_cons (wpAny_eqBool_str (PySem.W.kat_go (fun he2=>?_) fun he2=>?_)))
   ·have he2:x2=y2:=by simpa using he2
    refine PySem.W.kat_yes (PySem.W.kat_nil ?_)
    have:pairLt (x1.cps.toList,x2.cps.toList) (y1.cps.toList,y2.cps.toList)=decide (2<2):=by
     rw[he,he2]
     exact(pairKind h0).irrefl (y1.cps.toList,y2.cps.toList)
    show Q (decide (2<2)) s'
    rw[<-this]
    exact q
   ·refine PySem.W.kat_no (PySem.W.kat_one _ _ (lt_str ?_))
    have:pairLt (x1.cps.toList,x2.cps.toList) (y1.cps.toList,y2.cps.toList)=decide (x2.cps.toList<y2.cps.toList):=by
     rw[he]
     unfold pairLt
     simp[List.lt_irrefl]
    show Q (decide (x2.cps.toList<y2.cps.toList)) s'
    rw[<-this]
    exact q
  ·have he:¬x1=y1:=by simpa using he
   refine PySem.W.kat_no (oneLt_str ?_)
   have hne:¬x1.cps.toList=y1.cps.toList:=fun z=>he (by cases x1;cases y1;simp at z;simp[z])
   have:pairLt (x1.cps.toList,x2.cps.toList) (y1.cps.toList,y2.cps.toList)=decide (x1.cps.toList<y1.cps.toList):=by
    unfold pairLt
    simp[hne]
   rw[<-this]
   exact q
 ·obtain⟨x,y,z⟩:=hv v hvm
  exact⟨_,z.key⟩
 ·have hT:∀(us:List Value),(∀v∈us,∃x y,PairAt h0 v x y)->∃fs,PySem.W.KatTups s'.heap us fs/\fs.length=us.length/\∀v∈fs,∃x t,v = .str x t:=by
   intro us
   induction us with
   | nil=>exact fun _=>⟨[],.nil,rfl,fun v hv=>by simp at hv⟩
   | cons v r ih =>
    intro hus
    obtain⟨fs,g1,g2,g3⟩:=ih fun u hu=>hus u (List.mem_cons_of_mem _ hu)
    obtain⟨x,y,p,o,n,t,u,rfl,e,c,d⟩:=hus v (List.mem_cons_self ..)
    refine⟨.str x t::fs,.cons (hE _ _ (hk _ _ e).1 (hk _ _ e).2) c d rfl g1,by simp[g2],fun z hz=>?_⟩
    rcases List.mem_cons.mp hz with rfl | hz
    ·exact⟨x,t,rfl⟩
    ·exact g3 z hz
  obtain⟨fs,g1,g2,g3⟩:=hT vs hv
  refine PySem.W.kat_kind (T:=.type "str") g1 (by omega) (fun v hv=>?_) (by rfl) q
  obtain⟨x,t,rfl⟩:=g3 v hv
  exact .now
end
end TS
set_option Elab.async false
namespace L2
open PySem PySem.Spec PyProof.Rows
noncomputable abbrev Key:=Sum Int Str
noncomputable def Ck:Key->Value->Bool
 | .inl k,v=>Value.isInt k v
 | .inr x,v=>Value.isStrOf x v
noncomputable def Za(w:World):Key->Int
 | .inl k=>hashInt k
 | .inr x=>hashStr w x
theorem D6:∀{k:Key} {v:Value},Ck k v=true->(∃i t,k=Sum.inl i/\v=Value.int i t)\/(∃x t,k=Sum.inr x/\v=Value.str x t)
 | .inl i,v,h=>by
  obtain⟨t,e⟩:=Value.isInt_shape (k:=i) (v:=v) h
  exact .inl ⟨i,t,rfl,e⟩
 | .inr x,v,h=>by
  obtain⟨t,e⟩:=Value.isStrOf_shape (x:=x) (v:=v) h
  exact .inr ⟨x,t,rfl,e⟩
theorem Lr(i:Int)(t:Tok):Ck (.inl i) (.int i t)=true:=by simp[Ck,Value.isInt]
theorem Ng(x:Str)(t:Tok):Ck (.inr x) (.str x t)=true:=by simp[Ck,Value.isStrOf]
theorem Tl(a b:Int):decide ((Sum.inl a:Key)=Sum.inl b) =(a == b):=by
 by_cases e:a=b
 ·subst e;simp
 ·have h:¬(Sum.inl a:Key)=Sum.inl b:=fun q=>e (Sum.inl.inj q)
  rw[decide_eq_false h]
  exact(beq_eq_false_iff_ne.mpr e).symm
theorem Vm(a b:Str):decide ((Sum.inr a:Key)=Sum.inr b)=decide (a=b):=by
 by_cases e:a=b
 ·subst e;simp
 ·have h:¬(Sum.inr a:Key)=Sum.inr b:=fun q=>e (Sum.inr.inj q)
  rw[decide_eq_false h,decide_eq_false e]
theorem Tw(a:Int)(b:Str):decide ((Sum.inl a:Key)=Sum.inr b)=false:=decide_eq_false (fun q=>nomatch q)
theorem Uf(a:Str)(b:Int):decide ((Sum.inr a:Key)=Sum.inl b)=false:=decide_eq_false (fun q=>nomatch q)
noncomputable def C0(prog:Program)(w:World):PySem.KeyKind prog w Key where
 is:=Ck
 hash:=Za w
 inj:=fun v a b ha hb=>by
  rcases D6 ha with⟨i,t,rfl,rfl⟩ | ⟨x,t,rfl,rfl⟩
  ·rcases D6 hb with⟨j,u,rfl,e⟩ | ⟨y,u,rfl,e⟩
   ·injection e with e1 _;rw[e1]
   ·exact nomatch e
  ·rcases D6 hb with⟨j,u,rfl,e⟩ | ⟨y,u,rfl,e⟩
   ·exact nomatch e
   ·injection e with e1 _;rw[e1]
 byValue:=fun k v h=>by
  rcases D6 h with⟨i,t,rfl,rfl⟩ | ⟨x,t,rfl,rfl⟩<;>rfl
 pyHash:=fun hv h=>by
  rcases D6 hv with⟨i,t,rfl,rfl⟩ | ⟨x,t,rfl,rfl⟩
  ·exact wpAny_pyHash_int h
  ·exact wpAny_pyHash_str h
 eqBool:=fun hu hv h=>by
  rcases D6 hu with⟨i,t,rfl,rfl⟩ | ⟨x,t,rfl,rfl⟩
  ·rcases D6 hv with⟨j,u,rfl,rfl⟩ | ⟨y,u,rfl,rfl⟩
   ·rw[Tl]at h;exact wpAny_eqBool_int h
   ·rw[Tw]at h;exact SeqAt.EqAt.int_str i t y u _ _ _ _ h
  ·rcases D6 hv with⟨j,u,rfl,rfl⟩ | ⟨y,u,rfl,rfl⟩
   ·rw[Uf]at h;exact SeqAt.EqAt.str_int x t j u _ _ _ _ h
   ·rw[Vm]at h;exact wpAny_eqBool_str h
 «strs»:=fun k x t v h=>by
  rcases D6 h with⟨i,u,rfl,e⟩ | ⟨y,u,rfl,e⟩
  ·exact nomatch e
  ·injection e with e1 _
   subst e1
   cases v<;>rfl
theorem Eb(prog:Program)(w:World)(i:Int)(t:Tok):(C0 prog w).is (.inl i) (.int i t)=true:=Lr i t
theorem Dz(prog:Program)(w:World)(x:Str)(t:Tok):(C0 prog w).is (.inr x) (.str x t)=true:=Ng x t
inductive V where
 | non | bl (b:Bool) | int (i:Int) | str (x:Str) | byt (b:Array UInt8) | flt (b:UInt64) | ref (a:Addr) | ty (n:String)
 deriving DecidableEq
noncomputable def RelV:V->Value->Prop
 | .non,u=>u=Value.none
 | .bl b,u=>u=Value.bool b
 | .int i,u=>∃t,u=Value.int i t
 | .str x,u=>∃t,u=Value.str x t
 | .byt b,u=>∃t,u=Value.bytes b t
 | .flt b,u=>∃t,u=Value.float b t
 | .ref a,u=>u=Value.ref a
 | .ty n,u=>u=Value.type n
noncomputable abbrev Vals:List V->List Value->Prop:=Paired RelV
theorem Vals.length{xs:List V}{us:List Value}(r:Vals xs us):xs.length=us.length:=Paired.length r
theorem Vals.get:∀{xs:List V} {us:List Value} {i:Nat} {x:V},Vals xs us->xs[i]?=some x->∃u,us[i]?=some u/\RelV x u
 | _,_,_,_,.nil,e=>by simp at e
 | _,_,0,_,.cons r _,e=>by simp at e;subst e;exact⟨_,rfl,r⟩
 | _,_,i+1,x,.cons _ t,e=>by
  obtain⟨u,h1,h2⟩:=Vals.get (i:=i) (x:=x) t (by simpa using e)
  exact⟨u,by simpa using h1,h2⟩
theorem Vals.set{x:V}{u:Value}(r:RelV x u):∀{xs:List V} {us:List Value} (i:Nat),Vals xs us->Vals (xs.set i x) (us.set i u)
 | _,_,_,.nil=>.nil
 | _,_,0,.cons _ t=>.cons r t
 | _,_,i+1,.cons q t=>.cons q (Vals.set r i t)
theorem Vals.append:∀{xs ys:List V} {us ws:List Value},Vals xs us->Vals ys ws->Vals (xs++ys) (us++ws)
 | _,_,_,_,.nil,s=>s
 | _,_,_,_,.cons r t,s=>.cons r (Vals.append t s)
theorem Vals.take:∀{xs:List V} {us:List Value} (n:Nat),Vals xs us->Vals (xs.take n) (us.take n)
 | _,_,0,_=>.nil
 | _,_,_+1,.nil=>.nil
 | _,_,n+1,.cons r t=>.cons r (Vals.take n t)
theorem Vals.drop:∀{xs:List V} {us:List Value} (n:Nat),Vals xs us->Vals (xs.drop n) (us.drop n)
 | _,_,0,r=>r
 | _,_,_+1,.nil=>.nil
 | _,_,n+1,.cons _ t=>Vals.drop n t
noncomputable def RelO:Option V->Option Value->Prop
 | some v,some u=>RelV v u
 | none,none=>True
 | _,_=>False
noncomputable def KV{κ:Type}:List (κ×V)->List (κ×Value)->Prop:=Paired fun(p:κ×V) (q:κ×Value)=>p.1=q.1/\RelV p.2 q.2
noncomputable def kV:Key->V
 | .inl i=>.int i
 | .inr x=>.str x
inductive HO where
 | lst (xs:List V)
 | tup (xs:List V)
 | dK (kvs:List (Key×V)) | dT (kvs:List (List Key×V))
 | set (S:Int->Bool) (n:Nat)
 | ins (C dx:Addr) (fs:List (Str×V))
 | own (x:Addr)
 | xd (fs:List (Str×V))
 | met (f x:Addr)
 | rng (lo hi:Int)
 | frz (o:Obj) (u:HO)
 | tbl (ps:Array Value)
 | ext (φ:Heap->Prop)
set_option genInjectivity false
noncomputable abbrev Hp:=Addr->Option HO
noncomputable def upd(H:Hp)(a:Addr)(o:HO):Hp:=fun b=>if b=a then some o else H b
theorem A9{H:Hp}{a:Addr}{o:HO}:upd H a o a=some o:=by unfold upd;rw[if_pos rfl]
theorem B5{H:Hp}{a b:Addr}{o:HO}(h:b≠a):upd H a o b=H b:=by unfold upd;rw[if_neg h]
theorem Rq{H:Hp}{a:Addr}{o u:HO}:upd (upd H a o) a u=upd H a u:=by
 funext b;unfold upd;split<;>rfl
theorem u5{H:Hp}{a b:Addr}{o u:HO}(h:H a=some o)(h':H b=some u)(d:o≠u):a≠b:=by
 intro e;subst e;rw[h]at h';exact d (Option.some.inj h')
theorem B0{H:Hp}{a b:Addr}{o:HO}(h:H a=some o)(h':H b=none):a≠b:=by
 intro e;subst e;rw[h]at h';cases h'
section
variable(P:Program)(w:World)
noncomputable def ObjOk(H:Hp)(h:Heap)(a:Addr):HO->Prop
 | .lst xs=>xs.length<=sizeLine/\∃(its:List Value) (n:Nat),Vals xs its/\h.get? a=some { cls:=.type "list",data:=.seq its.toArray n }
 | .tup xs=>xs.length<=sizeLine/\∃its:List Value,Vals xs its/\IsTup h a its.toArray
 | .dK kvs=>kvs.length<=sizeLine/\(a == sysModules)=false/\∃vs,KV kvs vs/\h.DictOf (C0 P w) a vs
 | .dT kvs=>kvs.length<=sizeLine/\(a == sysModules)=false/\∃xs:List (List Key×Addr×Value),
   Paired (fun(p:List Key×V) (q:List Key×Addr×Value)=>p.1=q.1/\H q.2.1=some (.tup (p.1.map kV))/\RelV p.2 q.2.2) kvs xs /\
   ∃o es ep,h.get? a=some o/\o.ExactDict/\o.data = .dict es ep/\es.toList=xs.map (entryOfKey (tupleKind (C0 P w)))/\(xs.map (·.1)).Nodup
 | .set S n=>h.SetOf (intKind P w) a S n
 | .ins C dx fs=>H dx=some (.own a)/\fs.length<=1000/\dx≠a/\h.get? a=some (PySem.W.instObj C dx) /\
   ∃mA,h.Ns1 dx mA/\(∀f,RelO (fs.lookup f) (mA f))/\PySem.Within mA (fs.map (·.1))
 | .own _=>∃o,h.get? a=some o
 | .xd fs=>∃mA,h.Ns1 a mA/\∀f,RelO (fs.lookup f) (mA f)
 | .rng lo hi=>∃t u v,h.get? a=some { cls:=.type "range",data:=.fields #[.int lo t,.int hi u,.int 1 v] }
 | .frz o u=>h.get? a=some o/\ObjOk H h a u
 | .tbl ps=>h.get? a=some { cls:=.none,data:=.fields ps }
 | .met f x=>h.get? a=some (PySem.W.methodObj (.ref f) (.ref x))
 | .ext φ=>φ h/\(∃o,h.get? a=some o)/\∀h1 h2:Heap,φ h1->(∀o,h1.get? a=some o->h2.get? a=some o)->φ h2
noncomputable def HOk(H:Hp)(h:Heap):Prop:=∀a o,H a=some o->ObjOk P w H h a o
end
section
variable{P:Program}{w:World}{H H':Hp}{h h':Heap}{a:Addr}{o:HO}
theorem ObjOk.lt(x:ObjOk P w H h a o):a<h.objs.size:=by
 cases o with
 | lst xs=>obtain⟨_,_,_,_,e⟩:=x;exact Heap.lt_size e
 | tup xs=>obtain⟨_,_,_,p⟩:=x;exact p.lt
 | dK kvs=>obtain⟨_,_,_,_,o,_,_,e,_⟩:=x;exact Heap.lt_size e
 | dT kvs=>obtain⟨_,_,_,_,o,_,_,e,_⟩:=x;exact Heap.lt_size e
 | set S n=>obtain⟨o,_,_,_,e,_⟩:=x;exact Heap.lt_size e
 | ins C dx fs=>obtain⟨_,_,_,e,_⟩:=x;exact Heap.lt_size e
 | own y=>obtain⟨_,e⟩:=x;exact Heap.lt_size e
 | xd fs=>obtain⟨_,⟨_,_,_,e,_⟩,_⟩:=x;exact Heap.lt_size e
 | rng lo hi=>obtain⟨_,_,_,e⟩:=x;exact Heap.lt_size e
 | frz ob u=>obtain⟨e,_⟩:=x;exact Heap.lt_size e
 | tbl ps=>exact Heap.lt_size (show h.get? a=some _ from x)
 | met f y=>exact Heap.lt_size (show h.get? a=some _ from x)
 | ext φ=>obtain⟨_,⟨_,e⟩,_⟩:=x;exact Heap.lt_size e
theorem Paired.mapP{α β:Type}{F G:α->β->Prop}:∀{l₁:List α} {l₂:List β},Paired F l₁ l₂->(∀a b,F a b->G a b)->Paired G l₁ l₂
 | _,_,.nil,_=>.nil
 | _,_,.cons r t,f=>.cons (f _ _ r) (Paired.mapP t f)
theorem ObjOk.stay(x:ObjOk P w H h a o)(k:∀b u,(b=a\/H b=some (.own a))->h.get? b=some u->h'.get? b=some u)
  (ho:∀b,H b=some (.own a)->H' b=some (.own a)) (ht:∀b xs,H b=some (.tup xs)->H' b=some (.tup xs)):ObjOk P w H' h' a o:=by
 induction o with
 | lst xs=>obtain⟨z,its,n,r,e⟩:=x;exact⟨z,its,n,r,k _ _ (.inl rfl) e⟩
 | tup xs=>obtain⟨z,its,r,ob,e,c⟩:=x;exact⟨z,its,r,ob,k _ _ (.inl rfl) e,c⟩
 | dK kvs=>obtain⟨z,y,vs,r,ob,es,ep,e,c⟩:=x;exact⟨z,y,vs,r,ob,es,ep,k _ _ (.inl rfl) e,c⟩
 | dT kvs =>
  obtain⟨z,y,xs,r,ob,es,ep,e,c⟩:=x
  exact⟨z,y,xs,Paired.mapP r fun p q z=>⟨z.1,ht _ _ z.2.1,z.2.2⟩,ob,es,ep,k _ _ (.inl rfl) e,c⟩
 | set S n=>obtain⟨ob,es,ep,t,e,c⟩:=x;exact⟨ob,es,ep,t,k _ _ (.inl rfl) e,c⟩
 | ins C dx fs =>
  obtain⟨d,z,ne,e,mA,⟨od,es,ep,e2,c⟩,r⟩:=x
  exact⟨ho _ d,z,ne,k _ _ (.inl rfl) e,mA,⟨od,es,ep,k _ _ (.inr d) e2,c⟩,r⟩
 | own y=>obtain⟨ob,e⟩:=x;exact⟨ob,k _ _ (.inl rfl) e⟩
 | xd fs=>obtain⟨mA,⟨od,es,ep,e,c⟩,r⟩:=x;exact⟨mA,⟨od,es,ep,k _ _ (.inl rfl) e,c⟩,r⟩
 | rng lo hi=>obtain⟨t,u,v,e⟩:=x;exact⟨t,u,v,k _ _ (.inl rfl) e⟩
 | frz ob u ih=>obtain⟨e,q⟩:=x;exact⟨k _ _ (.inl rfl) e,ih q⟩
 | tbl ps =>
  have e:h.get? a=some { cls:=.none,data:=.fields ps }:=x
  show h'.get? a=some { cls:=.none,data:=.fields ps }
  exact k a _ (.inl rfl) e
 | met f y =>
  have e:h.get? a=some (PySem.W.methodObj (.ref f) (.ref y)):=x
  show h'.get? a=some (PySem.W.methodObj (.ref f) (.ref y))
  exact k a _ (.inl rfl) e
 | ext φ=>obtain⟨p,⟨o,e⟩,st⟩:=x;exact⟨st _ _ p fun o q=>k _ _ (.inl rfl) q,⟨o,k _ _ (.inl rfl) e⟩,st⟩
theorem HOk.lt(x:HOk P w H h)(e:H a=some o):a<h.objs.size:=(x a o e).lt
theorem HOk.fresh(x:HOk P w H h)(e:h.objs.size<=a):H a=none:=by
 cases q:H a with
 | none=>rfl
 | some u=>exact absurd (Nat.lt_of_lt_of_le (x.lt q) e) (Nat.lt_irrefl _)
theorem HOk.kept(x:HOk P w H h)(k:∀b u,h.get? b=some u->h'.get? b=some u):HOk P w H h':=fun a o e =>
 (x a o e).stay (fun b u _ q=>k b u q) (fun _ q=>q) fun _ _ q=>q
theorem HOk.laid(x:HOk P w H h)(k:∀b u,h.get? b=some u->h'.get? b=some u)(hp:h.objs.size<=a)(new:ObjOk P w (upd H a o) h' a o):HOk P w (upd H a o) h':=fun b u e=>by
 have hn:=x.fresh hp
 by_cases hb:b=a
 ·subst hb;rw[A9]at e;cases e;exact new
 ·rw[B5 hb]at e
  exact(x b u e).stay (fun c v _ q=>k c v q) (fun c q=>by rw[B5 (B0 q hn)];exact q) fun c xs q=>by rw[B5 (B0 q hn)];exact q
end
noncomputable def Rd(H:Hp)(a:Addr)(u:HO):Prop:=H a=some u\/∃o,H a=some (.frz o u)
theorem Rd.ok{P:Program}{w:World}{H:Hp}{h:Heap}{a:Addr}{u:HO}(r:Rd H a u)(x:HOk P w H h):ObjOk P w H h a u:=by
 rcases r with r | ⟨o,r⟩
 ·exact x a u r
 ·obtain⟨_,q⟩:=x a _ r
  exact q
noncomputable def Mut:Option HO->Prop
 | some (.lst _)=>True
 | some (.dK _)=>True
 | some (.dT _)=>True
 | some (.set _ _)=>True
 | some (.ins _ _ _)=>True
 | some (.ext _)=>True
 | _=>False
section
variable{P:Program}{w:World}{H:Hp}{h h':Heap}{x e:Addr}{o':HO}
theorem HOk.write(ok:HOk P w H h)(mu:Mut (H x))(he:e=x\/H e=some (.own x))(k:∀b u,b≠e->h.get? b=some u->h'.get? b=some u)(heo:∃u,h'.get? e=some u)
  (new:ObjOk P w (upd H x o') h' x o'):HOk P w (upd H x o') h':=fun b u q=>by
 have nown:∀c y,H c=some (.own y)->c≠x:=fun c y r z=>by subst z;rw[r]at mu;exact mu
 have ntup:∀c xs,H c=some (.tup xs)->c≠x:=fun c xs r z=>by subst z;rw[r]at mu;exact mu
 by_cases hb:b=x
 ·subst hb;rw[A9]at q;cases q;exact new
 ·rw[B5 hb]at q
  by_cases hbe:b=e
  ·have q':H b=some (.own x):=by
    rcases he with z | z
    ·exact absurd (hbe.trans z) hb
    ·rw[hbe];exact z
   rw[q]at q';cases q'
   obtain⟨v,hv⟩:=heo
   exact⟨v,by rw[hbe];exact hv⟩
  ·refine(ok b u q).stay (fun c v hc r=>k c v ?_ r) (fun c r=>by rw[B5 (nown c b r)];exact r) fun c xs r=>by rw[B5 (ntup c xs r)];exact r
   rcases hc with rfl | hc
   ·exact hbe
   ·rintro rfl
    rcases he with z | z
    ·exact nown c b hc z
    ·rw[hc]at z;cases z;exact hb rfl
end
structure Un(fs ex:List Addr)(H H':Hp)(h h':Heap):Prop where
 keep:∀b o,h.get? b=some o->H b=none->b∉fs->b∉ex->h'.get? b=some o
 slot:∀b o,h.get? b=some o->H b=none->b∈fs->b∉ex->∃sl,h'.get? b=some { o with slots:=sl }
 free:∀b o,h.get? b=some o->H b=none->b∉ex->H' b=none
 there:∀b o,h.get? b=some o->b∉ex->∃o',h'.get? b=some o'
 tups:∀b xs,H b=some (.tup xs)->H' b=some (.tup xs)
 frzs:∀b o u,H b=some (.frz o u)->H' b=some (.frz o u)
 tbls:∀b ps,H b=some (.tbl ps)->∃more,H' b=some (.tbl (ps++more))
section
variable{fs fs' ex ex':List Addr}{H H1 H2:Hp}{h h1 h2 h':Heap}{a x e:Addr}{o:HO}
theorem Un.any(u:Un fs ex H H1 h h1){b:Addr}{ob:Obj}(q:h.get? b=some ob)(n:H b=none)(hx:b∉ex):∃sl,h1.get? b=some { ob with slots:=sl }:=by
 by_cases hb:b∈fs
 ·exact u.slot b ob q n hb hx
 ·exact⟨ob.slots,u.keep b ob q n hb hx⟩
theorem Un.kept(k:∀b u,h.get? b=some u->h'.get? b=some u):Un fs ex H H h h' :=
 ⟨fun b ob q _ _ _=>k b ob q,fun b ob q _ _ _=>⟨ob.slots,k b ob q⟩,fun _ _ _ n _=>n,fun b ob q _=>⟨ob,k b ob q⟩,fun _ _ q=>q,fun _ _ _ q=>q,fun _ ps q=>⟨#[],by rw[q];simp⟩⟩
theorem Un.refl:Un fs ex H H h h:=Un.kept fun _ _ q=>q
theorem Un.laid(k:∀b u,h.get? b=some u->h'.get? b=some u)(hp:h.objs.size<=a)(hn:H a=none):Un fs ex H (upd H a o) h h' where
 keep:=fun b u q _ _ _=>k b u q
 slot:=fun b u q _ _ _=>⟨u.slots,k b u q⟩
 free:=fun b u q n _=>by rw[B5 (Nat.ne_of_lt (Nat.lt_of_lt_of_le (Heap.lt_size q) hp))];exact n
 there:=fun b u q _=>⟨u,k b u q⟩
 tups:=fun b xs q=>by rw[B5 (B0 q hn)];exact q
 frzs:=fun b u xs q=>by rw[B5 (B0 q hn)];exact q
 tbls:=fun b ps q=>⟨#[],by rw[B5 (B0 q hn),q];simp⟩
theorem Un.write(mu:Mut (H x))(he:e=x\/H e=some (.own x))(k:∀b u,b≠e->h.get? b=some u->h'.get? b=some u)(heo:∃u,h'.get? e=some u):Un fs ex H (upd H x o) h h':=by
 have hx:∀b,H b=none->b≠x:=fun b n z=>by subst z;rw[n]at mu;exact mu
 have hb:∀b,H b=none->b≠e:=fun b n z=>by
  subst z
  rcases he with r | r
  ·exact hx b n r
  ·rw[n]at r;cases r
 have hm:∀b u,H b=some u->¬Mut (some u)->b≠x:=fun b u q nm z=>by subst z;rw[q]at mu;exact nm mu
 refine⟨fun b u q n _ _=>k b u (hb b n) q,fun b u q n _ _=>⟨u.slots,k b u (hb b n) q⟩,fun b u q n _=>by rw[B5 (hx b n)];exact n,fun b u q _=>?_,
  fun b xs q=>by rw[B5 (hm b _ q fun z=>z)];exact q,fun b u xs q=>by rw[B5 (hm b _ q fun z=>z)];exact q,fun b ps q=>⟨#[],by rw[B5 (hm b _ q fun z=>z),q];simp⟩⟩
 by_cases hbe:b=e
 ·subst hbe;exact heo
 ·exact⟨u,k b u hbe q⟩
end
noncomputable def trk(h:Heap)(H:Hp):List Addr:=(List.range h.objs.size).filter fun a=>(H a).isSome
noncomputable def Nm(h:Heap)(H:Hp):Heap:=PySem.W.hideAll h (trk h H)
theorem Kb(h:Heap)(H:Hp):(Nm h H).objs.size=h.objs.size:=PySem.W.hideAll_size _ _
theorem Od{h:Heap}{H:Hp}{b:Addr}{o:Obj}(e:h.get? b=some o)(n:H b=none):(Nm h H).get? b=some o :=
 PySem.W.hideAll_get _ e fun hm=>by
  have q:(H b).isSome=true:=(List.mem_filter.mp hm).2
  rw[n]at q;simp at q
theorem Rs{h:Heap}{H:Hp}{b:Addr}{o:Obj}(e:(Nm h H).get? b=some o):h.get? b=some o/\H b=none:=by
 have e':h.get? b=some o:=PySem.W.of_hideAll (trk h H) e
 refine⟨e',?_⟩
 cases q:H b with
 | none=>rfl
 | some x =>
  have hm:b∈trk h H:=List.mem_filter.mpr ⟨List.mem_range.mpr (Heap.lt_size e'),by simp[q]⟩
  have z:(Nm h H).get? b=none:=PySem.W.hideAll_none (trk h H) hm
  rw[z]at e;cases e
structure Mod(K:PySem.W.Frag)(mg:Str->Option Value)(base:Heap):Prop where
 kin:K.In base
 glob:base.Ns mainGlobals mg
 blt:∃mb,base.Ns builtinsNs mb/\∀x:Str,x≠ "__name__"->mb x=bootBuiltins x
 nolimit:base.NoLimit
structure Cx where
 prog:Program
 w:World
 K:PySem.W.Frag
 mg:Str->Option Value
 base:Heap
 A:Around
 N:List Str
 s₀:Shared
 H₀:Hp
 env:Env
 outer:List Env
 stack:List Env
 ex:List Addr
 fn:Str->Bool
 calm:Bool
 pn:List (Addr×Obj)
 xe:Value->Shared->Prop
noncomputable def frs(l:List Env):List Addr:=l.filterMap (·.frame)
noncomputable abbrev Cx.fs(X:Cx):List Addr:=frs X.outer
noncomputable def Vis(sc:Scope)(x:Str):Prop:=sc.names.lookup x=some .local\/sc.names.lookup x=some .cell\/sc.names.lookup x=some .free
noncomputable def Loc(sc:Scope)(x:Str):Prop:=sc.names.lookup x=some .local\/sc.names.lookup x=some .cell
noncomputable def Yn(env:Env)(h:Heap)(m:Str->Option Value)(x:Str)(u:Value):Prop :=
 (env.kindOf x=some .local/\m x=some u)\/((env.kindOf x=some .cell\/env.kindOf x=some .free)/\∃c,env.cells.lookup x=some c/\h.IsCell c (some u))
structure Cx.Ok(X:Cx):Prop where
 mod:Mod X.K X.mg X.base
 kind:X.env.scope.kind = .function
 glob:X.env.globals=mainGlobals
 blt:X.env.builtins=builtinsNs
 above:X.s₀.heap.objs.size<=X.env.locals
 inj:∀x y c,X.env.cells.lookup x=some c->X.env.cells.lookup y=some c->x=y
 has:∀x,(X.env.kindOf x=some .cell\/X.env.kindOf x=some .free)->∃c,X.env.cells.lookup x=some c
 cab:∀x c,X.fn x=true->X.env.cells.lookup x=some c->X.s₀.heap.objs.size<=c
 hd:X.calm=true->X.A.handled=none
 frames:X.A.frames=some X.stack
 stk:X.stack=X.outer\/(X.stack=X.env::X.outer/\X.env.frame=some X.env.locals)
 exf:∀b∈X.ex,b≠X.env.locals/\∀x c,X.env.cells.lookup x=some c->c≠b
 bs:∀b o,X.base.get? b=some o->X.s₀.heap.get? b=some o/\X.H₀ b=none
 bsz:X.base.objs.size<=X.s₀.heap.objs.size
 noex:∀b o,X.base.get? b=some o->b∉X.ex
 exfs:∀b∈X.ex,b∉X.fs
 funs:X.s₀.heap.FunFrames X.base X.outer
 frf:∀b∈X.fs,X.H₀ b=none
structure Inv(X:Cx)(pins:List (Addr×Obj))(σ:List (Option V))(H:Hp)(s:Shared):Prop where
 ok:X.Ok
 os:s.os=X.s₀.os
 bare:AllBare s.gens
 base:Un X.fs X.ex X.H₀ H X.s₀.heap s.heap
 loc:∃m,s.heap.Ns X.env.locals m/\∀(i:Nat) (x:Str) (v:V),X.N[i]?=some x->σ[i]?=some (some v)->Vis X.env.scope x->∃u,RelV v u/\Yn X.env s.heap m x u
 cell:∀x c,X.env.cells.lookup x=some c->∃v,s.heap.IsCell c v
 free:H X.env.locals=none
 freeC:∀x c,X.env.cells.lookup x=some c->H c=none
 pin:∀p∈X.pn++pins,s.heap.get? p.1=some p.2/\H p.1=none/\p.1≠X.env.locals/\p.1∉X.fs/\∀v,p.2.data≠ .cell v
 hok:HOk X.prog X.w H s.heap
 len:σ.length=X.N.length
section
variable{X:Cx}{pins:List (Addr×Obj)}{σ:List (Option V)}{H H':Hp}{s:Shared}{h':Heap}
theorem Cx.Ok.nofr(ok:X.Ok){b:Addr}{o:Obj}(e:X.base.get? b=some o):b∉X.fs:=fun hb=>by
 have:=(ok.funs.mem hb).1
 rw[e]at this;cases this
theorem Inv.bs(I:Inv X pins σ H s):∀b o,X.base.get? b=some o->s.heap.get? b=some o/\H b=none:=fun b o e =>
 ⟨I.base.keep b o (I.ok.bs b o e).1 (I.ok.bs b o e).2 (I.ok.nofr e) (I.ok.noex b o e),I.base.free b o (I.ok.bs b o e).1 (I.ok.bs b o e).2 (I.ok.noex b o e)⟩
theorem Inv.bk(I:Inv X pins σ H s):∀b o,X.base.get? b=some o->s.heap.get? b=some o:=fun b o e=>(I.bs b o e).1
theorem Inv.mod(I:Inv X pins σ H s):Mod X.K X.mg X.base:=I.ok.mod
theorem Inv.kIn(I:Inv X pins σ H s):X.K.In s.heap:=I.ok.mod.kin.keeps I.bk
theorem Inv.lt(I:Inv X pins σ H s):X.env.locals<s.heap.objs.size:=let⟨_,hn,_⟩:=I.loc;hn.lt
theorem Inv.sz(I:Inv X pins σ H s):X.s₀.heap.objs.size<=s.heap.objs.size:=Nat.le_trans I.ok.above (Nat.le_of_lt I.lt)
theorem Inv.nofs(I:Inv X pins σ H s){a:Addr}(h:s.heap.objs.size<=a):a∉X.fs:=fun hb=>by
 obtain⟨_,o,ho,_⟩:=I.ok.funs.mem hb
 exact absurd (Nat.lt_of_lt_of_le (Heap.lt_size ho) (Nat.le_trans I.sz h)) (Nat.lt_irrefl _)
theorem Inv.cne(I:Inv X pins σ H s):∀x c,X.env.cells.lookup x=some c->c≠X.env.locals:=fun x c e z=>by
 obtain⟨v,o,ho,hd⟩:=I.cell x c e
 obtain⟨m,⟨o',es,ep,ho',hd',_⟩,_⟩:=I.loc
 rw[z,ho']at ho;cases ho;rw[hd']at hd;cases hd
theorem Inv.funs(I:Inv X pins σ H s):s.heap.FunFrames X.base X.outer:=by
 have all:∀(l:List Env),(∀b∈frs l,b∈X.fs)->X.s₀.heap.FunFrames X.base l->s.heap.FunFrames X.base l:=by
  intro l
  induction l with
  | nil=>intro _ _;trivial
  | cons env r ih =>
   intro hs hl
   obtain⟨hk,⟨L,o,hf,hn,ho,hd⟩,hr⟩:=hl
   have hL:L∈X.fs:=hs L (by unfold frs;rw[List.filterMap_cons,hf];exact List.mem_cons_self)
   obtain⟨sl,e⟩:=I.base.slot L o ho (I.ok.frf L hL) hL fun z=>I.ok.exfs L z hL
   exact⟨hk,⟨L,_,hf,hn,e,hd⟩,ih (fun b hb=>hs b (by unfold frs;rw[List.filterMap_cons,hf];exact List.mem_cons_of_mem _ hb)) hr⟩
 exact all X.outer (fun _ hb=>hb) I.ok.funs
theorem Inv.stack(I:Inv X pins σ H s):s.heap.FunFrames X.base X.stack:=by
 rcases I.ok.stk with e | ⟨e,hf⟩
 ·rw[e];exact I.funs
 ·rw[e]
  obtain⟨m,hn,_⟩:=I.loc
  refine .cons (by rw[I.ok.kind];decide) hf hn ?_ I.funs
  exact Heap.get?_none_of_le (Nat.le_trans I.ok.bsz I.ok.above)
theorem Inv.stkSub(I:Inv X pins σ H s):∀b∈frs X.stack,b∈X.env.locals::X.fs:=fun b hb=>by
 rcases I.ok.stk with e | ⟨e,hf⟩
 ·rw[e]at hb;exact List.mem_cons_of_mem _ hb
 ·rw[e]at hb
  unfold frs at hb
  rw[List.filterMap_cons,hf]at hb
  exact hb
theorem Inv.stkFree(I:Inv X pins σ H s):∀b∈frs X.stack,H b=none:=fun b hb=>by
 rcases List.mem_cons.mp (I.stkSub b hb)with e | hb
 ·rw[e];exact I.free
 ·obtain⟨_,o,ho,_⟩:=I.ok.funs.mem hb
  exact I.base.free b o ho (I.ok.frf b hb) fun z=>I.ok.exfs b z hb
theorem Inv.step{g':Array GenState}{t':Nat}{d':Drawn}{ch:List Addr}(I:Inv X pins σ H s)
  (hch:∀b∈ch,(b∈X.ex\/X.s₀.heap.objs.size<=b)/\b≠X.env.locals/\(∀x c,X.env.cells.lookup x=some c->c≠b)/\∀p∈X.pn++pins,p.1≠b)
  (keep:∀b o,b≠X.env.locals->b∉X.fs->b∉ch->s.heap.get? b=some o->H b=none->h'.get? b=some o)
  (slot:∀b o,b≠X.env.locals->b∈X.fs->b∉ch->s.heap.get? b=some o->H b=none->∃sl,h'.get? b=some { o with slots:=sl }) (free:∀b o,b∉ch->s.heap.get? b=some o->H b=none->H' b=none)
  (there:∀b o,b∉ch->s.heap.get? b=some o->∃o',h'.get? b=some o')
  (tups:∀b xs,H b=some (.tup xs)->H' b=some (.tup xs)) (frzs:∀b o u,H b=some (.frz o u)->H' b=some (.frz o u)) (tbls:∀b ps,H b=some (.tbl ps)->∃more,H' b=some (.tbl (ps++more)))
  (ns:∀m,s.heap.Ns X.env.locals m->h'.Ns X.env.locals m) (hok:HOk X.prog X.w H' h') (hg:AllBare g') :
  Inv X pins σ H' { s with heap:=h',gens:=g',drawn:=d',toks:=t' }:=by
 have neL:∀b o,X.s₀.heap.get? b=some o->b≠X.env.locals:=fun b o e=>Nat.ne_of_lt (Nat.lt_of_lt_of_le (Heap.lt_size e) I.ok.above)
 have neC:∀b o,X.s₀.heap.get? b=some o->b∉X.ex->b∉ch:=fun b o e hx hb=>by
  rcases(hch b hb).1 with z | z
  ·exact hx z
  ·exact absurd (Nat.lt_of_lt_of_le (Heap.lt_size e) z) (Nat.lt_irrefl _)
 have cellK:∀x c,X.env.cells.lookup x=some c->∀v,s.heap.IsCell c v->h'.IsCell c v:=fun x c e v ⟨o,ho,hd⟩=>by
  have nch:c∉ch:=fun z=>(hch c z).2.2.1 x c e rfl
  by_cases hc:c∈X.fs
  ·obtain⟨sl,q⟩:=slot c o (I.cne x c e) hc nch ho (I.freeC x c e)
   exact⟨_,q,hd⟩
  ·exact⟨o,keep c o (I.cne x c e) hc nch ho (I.freeC x c e),hd⟩
 refine⟨I.ok,I.os,hg,⟨fun b o e n hb hx=>?_,fun b o e n hb hx=>?_,fun b o e n hx=>?_,fun b o e hx=>?_,fun b xs e=>tups b xs (I.base.tups b xs e),fun b o xs e=>frzs b o xs (I.base.frzs b o xs e),fun b ps e=>?_⟩,?_,fun x c e=>?_,?_,fun x c e=>?_,fun p hp=>?_,hok,I.len⟩
 ·exact keep b o (neL b o e) hb (neC b o e hx) (I.base.keep b o e n hb hx) (I.base.free b o e n hx)
 ·obtain⟨sl,e1⟩:=I.base.slot b o e n hb hx
  obtain⟨sl',e2⟩:=slot b _ (neL b o e) hb (neC b o e hx) e1 (I.base.free b o e n hx)
  exact⟨sl',e2⟩
 ·obtain⟨o',e1⟩:=I.base.there b o e hx
  exact free b o' (neC b o e hx) e1 (I.base.free b o e n hx)
 ·obtain⟨o',e1⟩:=I.base.there b o e hx
  exact there b o' (neC b o e hx) e1
 ·obtain⟨m1,e1⟩:=I.base.tbls b ps e
  obtain⟨m2,e2⟩:=tbls b _ e1
  exact⟨m1++m2,by rw[e2,Array.append_assoc]⟩
 ·obtain⟨m,hn,hl⟩:=I.loc
  refine⟨m,ns m hn,fun i x v e1 e2 e3=>?_⟩
  obtain⟨u,r,l⟩:=hl i x v e1 e2 e3
  refine⟨u,r,?_⟩
  rcases l with l | ⟨k,c,e,z⟩
  ·exact .inl l
  ·exact .inr ⟨k,c,e,cellK x c e _ z⟩
 ·obtain⟨v,z⟩:=I.cell x c e
  exact⟨v,cellK x c e v z⟩
 ·obtain⟨m,⟨o,_,_,ho,_⟩,_⟩:=I.loc
  exact free _ o (fun z=>(hch _ z).2.1 rfl) ho I.free
 ·obtain⟨v,o,ho,hd⟩:=I.cell x c e
  exact free c o (fun z=>(hch c z).2.2.1 x c e rfl) ho (I.freeC x c e)
 ·obtain⟨e,n,ne,nf,d⟩:=I.pin p hp
  have nch:p.1∉ch:=fun z=>(hch p.1 z).2.2.2 p hp rfl
  exact⟨keep p.1 p.2 ne nf nch e n,free p.1 p.2 nch e n,ne,nf,d⟩
theorem Inv.un{t':Nat}(I:Inv X pins σ H s)(u:Un X.fs [] H H' s.heap h')(hok:HOk X.prog X.w H' h'):Inv X pins σ H' { s with heap:=h',toks:=t' }:=by
 obtain⟨m,⟨o,es,ep,ho,r⟩,_⟩:=id I.loc
 obtain⟨sl,hL⟩:=u.any ho I.free (by simp)
 exact I.step (g':=s.gens) (d':=s.drawn) (ch:=[]) (fun _ z=>nomatch z) (fun b o _ hb _ e n=>u.keep b o e n hb (by simp)) (fun b o _ hb _ e n=>u.slot b o e n hb (by simp)) (fun b o _ e n=>u.free b o e n (by simp)) (fun b o _ e=>u.there b o e (by simp)) u.tups u.frzs u.tbls (fun m' hm=>by
  obtain⟨o',es',ep',ho',r'⟩:=hm
  rw[ho]at ho';cases ho'
  exact⟨_,es',ep',hL,r'⟩) hok I.bare
theorem Inv.call{g':Array GenState}{t':Nat}{d':Drawn}{ch:List Addr}(I:Inv X pins σ H s)(u:Un (frs X.stack) ch H H' s.heap h')(hok:HOk X.prog X.w H' h')(hg:AllBare g')
  (hch:∀b∈ch,(b∈X.ex\/X.s₀.heap.objs.size<=b)/\b≠X.env.locals/\(∀x c,X.env.cells.lookup x=some c->c≠b)/\∀p∈X.pn++pins,p.1≠b) :
  Inv X pins σ H' { s with heap:=h',gens:=g',drawn:=d',toks:=t' }:=by
 obtain⟨m,⟨o,es,ep,ho,r⟩,_⟩:=id I.loc
 obtain⟨sl,hL⟩:=u.any ho I.free fun z=>(hch _ z).2.1 rfl
 exact I.step (ch:=ch) hch (fun b o hL hb hc e n=>u.keep b o e n (fun z=>(List.mem_cons.mp (I.stkSub b z)).elim hL hb) hc) (fun b o _ _ hc e n=>u.any e n hc) (fun b o hc e n=>u.free b o e n hc) (fun b o hc e=>u.there b o e hc) u.tups u.frzs u.tbls (fun m' hm=>by
  obtain⟨o',es',ep',ho',r'⟩:=hm
  rw[ho]at ho';cases ho'
  exact⟨_,es',ep',hL,r'⟩) hok hg
theorem Inv.turned{t':Nat}{it:Addr}(I:Inv X pins σ H s)(k:∀b o,b≠it->s.heap.get? b=some o->h'.get? b=some o)(hn:H it=none)(hL:it≠X.env.locals)
  (h1:it∈X.ex\/X.s₀.heap.objs.size<=it) (h2:∀x c,X.env.cells.lookup x=some c->c≠it) (h3:∀p∈X.pn++pins,p.1≠it):Inv X pins σ H { s with heap:=h',toks:=t' }:=by
 have nit:∀b u,H b=some u->b≠it:=fun b u e z=>by rw[z,hn]at e;cases e
 refine I.step (g':=s.gens) (d':=s.drawn) (ch:=[it]) (fun b hb=>?_) (fun b o _ _ hc e _=>k b o (fun z=>hc (by simp[z])) e) (fun b o _ _ hc e _=>⟨o.slots,k b o (fun z=>hc (by simp[z])) e⟩) (fun _ _ _ _ n=>n)
  (fun b o hc e=>⟨o,k b o (fun z=>hc (by simp[z])) e⟩) (fun _ _ e=>e) (fun _ _ _ e=>e) (fun b ps e=>⟨#[],by rw[e];simp⟩) (fun m hm=>?_) (fun b u e=>?_) I.bare
 ·have e:b=it:=by simpa using hb
  subst e
  exact⟨h1,hL,h2,h3⟩
 ·obtain⟨o,es,ep,ho,r⟩:=hm
  exact⟨o,es,ep,k _ o (Ne.symm hL) ho,r⟩
 ·refine(I.hok b u e).stay (fun c v hc q=>k c v ?_ q) (fun _ q=>q) fun _ _ q=>q
  rcases hc with z | z
  ·rw[z];exact nit b u e
  ·exact nit c _ z
theorem Inv.tok(I:Inv X pins σ H s)(t:Nat):Inv X pins σ H { s with toks:=t }:=I.un (h':=s.heap) (t':=t) Un.refl I.hok
theorem Inv.kept{t':Nat}(I:Inv X pins σ H s)(k:∀b u,s.heap.get? b=some u->h'.get? b=some u):Inv X pins σ H { s with heap:=h',toks:=t' }:=I.un (Un.kept k) (I.hok.kept k)
theorem Inv.laid{a:Addr}{o:HO}{t':Nat}(I:Inv X pins σ H s)(k:∀b u,s.heap.get? b=some u->h'.get? b=some u)(hp:s.heap.objs.size<=a)(new:ObjOk X.prog X.w (upd H a o) h' a o) :
  Inv X pins σ (upd H a o) { s with heap:=h',toks:=t' }:=I.un (Un.laid k hp (I.hok.fresh hp)) (I.hok.laid k hp new)
theorem Inv.write{x e:Addr}{o:HO}{t':Nat}(I:Inv X pins σ H s)(mu:Mut (H x))(he:e=x\/H e=some (.own x))(k:∀b u,b≠e->s.heap.get? b=some u->h'.get? b=some u)(heo:∃u,h'.get? e=some u)
  (new:ObjOk X.prog X.w (upd H x o) h' x o):Inv X pins σ (upd H x o) { s with heap:=h',toks:=t' }:=I.un (Un.write mu he k heo) (I.hok.write mu he k heo new)
theorem Inv.pins_of{pins':List (Addr×Obj)}(I:Inv X pins σ H s)(h:∀p∈pins',s.heap.get? p.1=some p.2/\H p.1=none/\p.1≠X.env.locals/\p.1∉X.fs/\∀v,p.2.data≠ .cell v):Inv X pins' σ H s :=
 ⟨I.ok,I.os,I.bare,I.base,I.loc,I.cell,I.free,I.freeC,fun p hp=>(List.mem_append.mp hp).elim (fun z=>I.pin p (List.mem_append_left _ z)) (h p),I.hok,I.len⟩
theorem Hv{N:List Str}(hN:N.Nodup){i j:Nat}{x:Str}(a:N[i]?=some x)(b:N[j]?=some x):i=j:=by
 obtain⟨h1,e1⟩:=List.getElem?_eq_some_iff.mp a
 obtain⟨h2,e2⟩:=List.getElem?_eq_some_iff.mp b
 exact(List.getElem_inj hN).mp (e1.trans e2.symm)
theorem Dk{M:Model}{A:Around}{E:Value->Shared->Prop}{i:Nat}{x:Str}{v:V}{u:Value}{Q:Unit->Shared->Prop}(I:Inv X pins σ H s)(hN:X.N.Nodup)(hi:X.N[i]?=some x)(hx:Loc X.env.scope x)(r:RelV v u)
  (h:∀s',Inv X pins (σ.set i (some v)) H s'->(∃a,Heap.SameBut a s.heap s'.heap/\(a=X.env.locals\/X.env.cells.lookup x=some a))->Q () s') (hf:X.fn x=true\/X.env.scope.names.lookup x=some .local:=by first | exact .inl rfl | exact .inr rfl | assumption):wpAny M A (storeName X.env x u) Q E s:=by
 obtain⟨m,hn,hl⟩:=id I.loc
 have hcls:(X.env.scope.kind == .class||(X.env.scope.kind == .module&&X.env.locals != X.env.globals))=false:=by rw[I.ok.kind];rfl
 have hiσ:i<σ.length:=by rw[I.len];exact(List.getElem?_eq_some_iff.mp hi).1
 have cne:=I.cne
 have tracked:∀{a:Addr} {h':Heap},(∃o,s.heap.get? a=some o/\H a=none)->Heap.SameBut a s.heap h'->HOk X.prog X.w H h':=fun{a h'} ha hs b ob e=>by
  obtain⟨_,_,hfree⟩:=ha
  refine(I.hok b ob e).stay (fun c w' hc q=>(hs.2 c ?_).trans q) (fun _ q=>q) fun _ _ q=>q
  rintro rfl
  rcases hc with rfl | hc
  ·rw[hfree]at e;cases e
  ·rw[hfree]at hc;cases hc
 rcases hx with hk | hk
 ·refine wpAny_storeName_local hk hn (fun h' hn' hs=>?_) hcls
  obtain⟨oL,_,_,hoL,_⟩:=id hn
  refine h _ ⟨I.ok,I.os,I.bare,⟨fun b o e n hb hx=>?_,fun b o e n hb hx=>?_,I.base.free,fun b o e hx=>?_,I.base.tups,I.base.frzs,I.base.tbls⟩,⟨_,hn',fun j y v' e1 e2 e3=>?_⟩,fun y c e=>?_,I.free,I.freeC,fun p hp=>?_,tracked ⟨oL,hoL,I.free⟩ hs,by simpa using I.len⟩ ⟨_,hs,.inl rfl⟩
  ·exact(hs.2 b (Nat.ne_of_lt (Nat.lt_of_lt_of_le (Heap.lt_size e) I.ok.above))).trans (I.base.keep b o e n hb hx)
  ·obtain⟨sl,e1⟩:=I.base.slot b o e n hb hx
   exact⟨sl,(hs.2 b (Nat.ne_of_lt (Nat.lt_of_lt_of_le (Heap.lt_size e) I.ok.above))).trans e1⟩
  ·obtain⟨o',e1⟩:=I.base.there b o e hx
   exact⟨o',(hs.2 b (Nat.ne_of_lt (Nat.lt_of_lt_of_le (Heap.lt_size e) I.ok.above))).trans e1⟩
  ·by_cases hj:j=i
   ·subst hj
    rw[hi]at e1;cases e1
    rw[List.getElem?_set_self hiσ]at e2
    cases e2
    exact⟨u,r,.inl ⟨hk,by simp⟩⟩
   ·rw[List.getElem?_set_ne (Ne.symm hj)]at e2
    obtain⟨u',r',q⟩:=hl j y v' e1 e2 e3
    refine⟨u',r',?_⟩
    rcases q with⟨k,e⟩ | ⟨k,c,e,z⟩
    ·refine .inl ⟨k,?_⟩
     have:y≠x:=fun e=>hj (Hv hN e1 (e▸hi))
     simp[this,e]
    ·exact .inr ⟨k,c,e,z.sameBut hs (cne y c e)⟩
  ·obtain⟨w',z⟩:=I.cell y c e
   exact⟨w',z.sameBut hs (cne y c e)⟩
  ·obtain⟨e,n,ne,nf,d⟩:=I.pin p hp
   exact⟨(hs.2 p.1 ne).trans e,n,ne,nf,d⟩
 ·have hfn:X.fn x=true:=by
   rcases hf with z | z
   ·exact z
   ·rw[z]at hk;cases hk
  obtain⟨c,hc⟩:=I.ok.has x (.inl hk)
  obtain⟨w',z⟩:=I.cell x c hc
  refine wpAny_storeName_cell I.ok.kind hk hc z (fun h' hc' hs=>?_)
  obtain⟨oc,hoc,hocd⟩:=id z
  refine h { s with heap:=h' } ⟨I.ok,I.os,I.bare,⟨fun b o e n hb hx=>?_,fun b o e n hb hx=>?_,I.base.free,fun b o e hx=>?_,I.base.tups,I.base.frzs,I.base.tbls⟩,⟨m,hn.sameBut hs (Ne.symm (cne x c hc)),fun j y v' e1 e2 e3=>?_⟩,fun y c' e=>?_,I.free,I.freeC,fun p hp=>?_,tracked ⟨oc,hoc,I.freeC x c hc⟩ hs,by simpa using I.len⟩ ⟨c,hs,.inr hc⟩
  ·exact(hs.2 b (Nat.ne_of_lt (Nat.lt_of_lt_of_le (Heap.lt_size e) (I.ok.cab x c hfn hc)))).trans (I.base.keep b o e n hb hx)
  ·obtain⟨sl,e1⟩:=I.base.slot b o e n hb hx
   exact⟨sl,(hs.2 b (Nat.ne_of_lt (Nat.lt_of_lt_of_le (Heap.lt_size e) (I.ok.cab x c hfn hc)))).trans e1⟩
  ·obtain⟨o',e1⟩:=I.base.there b o e hx
   exact⟨o',(hs.2 b (Nat.ne_of_lt (Nat.lt_of_lt_of_le (Heap.lt_size e) (I.ok.cab x c hfn hc)))).trans e1⟩
  ·by_cases hj:j=i
   ·subst hj
    rw[hi]at e1;cases e1
    rw[List.getElem?_set_self hiσ]at e2
    cases e2
    exact⟨u,r,.inr ⟨.inl hk,c,hc,hc'⟩⟩
   ·rw[List.getElem?_set_ne (Ne.symm hj)]at e2
    obtain⟨u',r',q⟩:=hl j y v' e1 e2 e3
    refine⟨u',r',?_⟩
    rcases q with q | ⟨k,c',e,z'⟩
    ·exact .inl q
    ·refine .inr ⟨k,c',e,z'.sameBut hs ?_⟩
     rintro rfl
     exact hj (Hv hN e1 (I.ok.inj _ _ _ e hc▸hi))
  ·by_cases hcc:c'=c
   ·subst hcc;exact⟨_,hc'⟩
   ·obtain⟨w2,z2⟩:=I.cell y c' e
    exact⟨w2,z2.sameBut hs hcc⟩
  ·obtain⟨e,n,ne,nf,d⟩:=I.pin p hp
   refine⟨(hs.2 p.1 ?_).trans e,n,ne,nf,d⟩
   intro q
   rw[q,hoc]at e
   have q':oc=p.2:=Option.some.inj e
   exact d w' (by rw[<-q'];exact hocd)
theorem Q9{M:Model}{A:Around}{E:Value->Shared->Prop}{i:Nat}{x:Str}{v:V}{u:Value}{Q:Unit->Shared->Prop}(I:Inv X pins σ H s)(hN:X.N.Nodup)(hi:X.N[i]?=some x)(hx:Loc X.env.scope x)(r:RelV v u)
  (h:∀s',Inv X pins (σ.set i (some v)) H s'->Q () s') (hf:X.fn x=true\/X.env.scope.names.lookup x=some .local:=by first | exact .inl rfl | exact .inr rfl | assumption):wpAny M A (storeName X.env x u) Q E s :=
 Dk I hN hi hx r (fun s' I' _=>h s' I') hf
theorem Inv.call'{s':Shared}{ch:List Addr}(I:Inv X pins σ H s)(ho:s'.os=s.os)(u:Un (frs X.stack) ch H H' s.heap s'.heap)(hok:HOk X.prog X.w H' s'.heap)(hg:AllBare s'.gens)
  (hch:∀b∈ch,(b∈X.ex\/X.s₀.heap.objs.size<=b)/\b≠X.env.locals/\(∀x c,X.env.cells.lookup x=some c->c≠b)/\∀p∈X.pn++pins,p.1≠b):Inv X pins σ H' s':=by
 obtain⟨h',g',d',t',o'⟩:=s'
 have e:o'=s.os:=ho
 subst e
 exact I.call (g':=g') (t':=t') (d':=d') u hok hg hch
end
noncomputable abbrev XK:=Value->Option Addr->Hp->Prop
noncomputable abbrev St:=List (Option V)
noncomputable abbrev VK:=V->Hp->Prop
noncomputable abbrev TE:=St->Hp->VK->Prop
noncomputable abbrev TT:=St->Hp->(Bool->Hp->Prop)->Prop
noncomputable abbrev TA:=St->Hp->(List V->Hp->Prop)->Prop
structure Ends where
 nx:St->Hp->Prop
 rt:VK
 bk:St->Hp->Prop:=fun _ _=>False
 ct:St->Hp->Prop:=fun _ _=>False
noncomputable abbrev TS:=Ends->St->Hp->Prop
noncomputable def EP(X:Cx)(pins:List (Addr×Obj))(σ:St)(Q:VK)(u:Value)(s':Shared):Prop:=∃v H',Inv X pins σ H' s'/\RelV v u/\Q v H'
noncomputable def TP(X:Cx)(pins:List (Addr×Obj))(σ:St)(Q:Bool->Hp->Prop)(b:Bool)(s':Shared):Prop:=∃H',Inv X pins σ H' s'/\Q b H'
noncomputable def AP(X:Cx)(pins:List (Addr×Obj))(σ:St)(Q:List V->Hp->Prop)(us:List Value)(s':Shared):Prop:=∃vs H',Inv X pins σ H' s'/\Vals vs us/\Q vs H'
noncomputable def SP(X:Cx)(pins:List (Addr×Obj))(D:Ends)(f:Flow)(s':Shared):Prop :=
 match f with
 | .next=>∃σ' H',Inv X pins σ' H' s'/\D.nx σ' H'
 | .brk=>∃σ' H',Inv X pins σ' H' s'/\D.bk σ' H'
 | .cont=>∃σ' H',Inv X pins σ' H' s'/\D.ct σ' H'
 | .ret u=>∃v σ' H',Inv X pins σ' H' s'/\RelV v u/\D.rt v H'
noncomputable def PE(X:Cx)(e:Expr)(t:TE):Prop :=
 ∀(pins:List (Addr×Obj)) (s:Shared) (σ:St) (H:Hp) (Q:VK),Inv X pins σ H s->t σ H Q->wpAny (model X.prog X.w) X.A (eval e X.env) (EP X pins σ Q) X.xe s
noncomputable def PT(X:Cx)(e:Expr)(t:TT):Prop :=
 ∀(pins:List (Addr×Obj)) (s:Shared) (σ:St) (H:Hp) (Q:Bool->Hp->Prop),Inv X pins σ H s->t σ H Q->wpAny (model X.prog X.w) X.A (isTrue e X.env (eval e X.env)) (TP X pins σ Q) X.xe s
noncomputable def PW(X:Cx)(e:Expr)(t:TT):Prop :=
 ∀(whole:Sem Value) (pins:List (Addr×Obj)) (s:Shared) (σ:St) (H:Hp) (Q:Bool->Hp->Prop),Inv X pins σ H s->t σ H Q->wpAny (model X.prog X.w) X.A (isTrue e X.env whole) (TP X pins σ Q) X.xe s
theorem PW.pt{X:Cx}{e:Expr}{t:TT}(h:PW X e t):PT X e t:=h _
noncomputable def PA(X:Cx)(es:List Expr)(t:TA):Prop :=
 ∀(pos:Pos) (pins:List (Addr×Obj)) (s:Shared) (σ:St) (H:Hp) (Q:List V->Hp->Prop),Inv X pins σ H s->t σ H Q->wpAny (model X.prog X.w) X.A (spliced (backTo pos (starEach es X.env))) (AP X pins σ Q) X.xe s
noncomputable def PS(X:Cx)(st:Stmt)(t:TS):Prop :=
 ∀(pins:List (Addr×Obj)) (s:Shared) (σ:St) (H:Hp) (D:Ends),Inv X pins σ H s->t D σ H->wpAny (model X.prog X.w) X.A (exec st X.env) (SP X pins D) X.xe s
noncomputable def PSs(X:Cx)(st:List Stmt)(t:TS):Prop :=
 ∀(pins:List (Addr×Obj)) (s:Shared) (σ:St) (H:Hp) (D:Ends),Inv X pins σ H s->t D σ H->wpAny (model X.prog X.w) X.A (execs st X.env) (SP X pins D) X.xe s
theorem thn{α:Type}{t:Sem α}{Q Q':α->Shared->Prop}{M:Model}{A:Around}{E:Value->Shared->Prop}{s:Shared}(h:wpAny M A t Q E s)(hQ:∀a s,Q a s->Q' a s):wpAny M A t Q' E s:=wpAny_mono h hQ fun _ _ x=>x
section
variable{X:Cx}
noncomputable def Rf(i:Nat):TE:=fun σ H Q=>∃v,σ[i]?=some (some v)/\Q v H
noncomputable def tC(v:V):TE:=fun _ H Q=>Q v H
theorem Pz{i:Nat}{x:Str}{pos:Pos}(hN:X.N[i]?=some x)(hv:Vis X.env.scope x)(hd:(x ==("__debug__":Str))=false:=by decide)(hcd:(x ==("__classdict__":Str))=false:=by decide):PE X (.Name x pos) (Rf i):=by
 intro pins s σ H Q I h
 obtain⟨v,e,h⟩:=h
 obtain⟨m,hn,hl⟩:=I.loc
 obtain⟨u,r,l⟩:=hl i x v hN e hv
 have fin:EP X pins σ Q u s:=⟨v,H,I,r,h⟩
 rcases l with⟨hk,hm⟩ | ⟨hk,c,hc,hcell⟩
 ·exact wpAny_Name (wpAny_loadName_local I.ok.kind hk hn hm fin) hd
 ·rcases hk with hk | hk
  ·exact wpAny_Name (wpAny_loadName_cell I.ok.kind hk hc hcell fin) hd
  ·exact wpAny_Name (wpAny_loadName_free I.ok.kind hk hc hcell fin hcd) hd
theorem B6{i j pos}:PE X (.Constant (.int i) j pos) (tC (.int i)):=fun _ _ _ H _ I h=>wpAny_Constant_int ⟨.int i,H,I.tok _,⟨_,rfl⟩,h⟩
theorem w5{b j pos}:PE X (.Constant (.bool b) j pos) (tC (.bl b)):=fun _ _ _ H _ I h=>Constant_bool ⟨.bl b,H,I,rfl,h⟩
theorem Tj{j pos}:PE X (.Constant .none j pos) (tC .non):=fun _ _ _ H _ I h=>Constant_none ⟨.non,H,I,rfl,h⟩
theorem z7{x j pos}:PE X (.Constant (.str x) j pos) (tC (.str x)):=fun _ _ _ H _ I h=>Calls.Constant_str ⟨.str x,H,I.tok _,⟨_,rfl⟩,h⟩
noncomputable def Gl(X:Cx)(x:Str):Prop:=X.env.kindOf x=some .globalImplicit
theorem V9{E:Value->Shared->Prop}{pins:List (Addr×Obj)}{s:Shared}{σ:St}{H:Hp}{x:Str}{u:Value}{pos:Pos}{Q:Value->Shared->Prop}(I:Inv X pins σ H s)(hg:Gl X x)(hm:X.mg x=some u)(h:Q u s)
  (hd:(x ==("__debug__":Str))=false:=by decide):wpAny (model X.prog X.w) X.A (eval (.Name x pos) X.env) Q E s :=
 Calls.Name_function_global I.ok.kind hg (Calls.loadGlobal_global (by rw[I.ok.glob];exact I.mod.glob.keeps I.bk) hm h) hd
theorem y4{E:Value->Shared->Prop}{pins:List (Addr×Obj)}{s:Shared}{σ:St}{H:Hp}{x:Str}{u:Value}{pos:Pos}{Q:Value->Shared->Prop}(I:Inv X pins σ H s)(hg:Gl X x)(hm:X.mg x=none)(hv:bootBuiltins x=some u)(h:Q u s)
  (hn:x≠ "__name__":=by decide) (hd:(x ==("__debug__":Str))=false:=by decide):wpAny (model X.prog X.w) X.A (eval (.Name x pos) X.env) Q E s:=by
 obtain⟨mb,h1,h2⟩:=I.mod.blt
 exact Calls.Name_function_global I.ok.kind hg (Calls.loadGlobal_builtin (by rw[I.ok.glob];exact I.mod.glob.keeps I.bk) hm (by rw[I.ok.blt];exact h1.keeps I.bk) ((h2 x hn).trans hv) h) hd
theorem Fe{x:Str}{v:V}{u:Value}{pos:Pos}(hg:Gl X x)(hm:X.mg x=some u)(r:RelV v u)(hd:(x ==("__debug__":Str))=false:=by decide):PE X (.Name x pos) (tC v) :=
 fun _ _ _ H _ I h=>V9 I hg hm ⟨v,H,I,r,h⟩ hd
theorem Tc{x:Str}{v:V}{u:Value}{pos:Pos}(hg:Gl X x)(hm:X.mg x=none)(hv:bootBuiltins x=some u)(r:RelV v u)(hn:x≠ "__name__":=by decide)(hd:(x ==("__debug__":Str))=false:=by decide):PE X (.Name x pos) (tC v) :=
 fun _ _ _ H _ I h=>y4 I hg hm hv ⟨v,H,I,r,h⟩ hn hd
variable{a b:Expr}{ta tb:TE}{pos:Pos}
noncomputable def tB(t:TE):TT:=fun σ H Q=>t σ H fun x H1=>∃c,x = .bl c/\Q c H1
theorem K7{e:Expr}{t:TE}(h:PE X e t)(he:∀whole,isTrue e X.env whole =(do let v <-whole;standAt e.pos;holding [v] (truthy v)):=by intro _;rfl):PT X e (tB t):=by
 intro pins s σ H Q I hw
 refine isTrue_plain (thn (h pins s σ H _ I hw) fun v s1 ⟨x,H1,I1,r1,q1⟩=>?_) (he _)
 obtain⟨d,rfl,q⟩:=q1
 cases r1
 exact wpAny_truthy_bool ⟨H1,I1,q⟩
variable{tA tB':TT}{rest:List Expr}
noncomputable def Yo(t u:TT):TT:=fun σ H Q=>t σ H fun c H1=>if c=true then u σ H1 Q else Q false H1
noncomputable def tOr(t u:TT):TT:=fun σ H Q=>t σ H fun c H1=>if c=true then Q true H1 else u σ H1 Q
noncomputable def Ym(t:TT):TT:=fun σ H Q=>t σ H fun c H1=>Q (!c) H1
theorem Aj(ha:PT X a tA):PW X (.BoolOp .And [a] pos) tA:=by
 intro wh pins s σ H Q I h
 refine isTrue_and (thn (ha pins s σ H Q I h) fun c s1 e=>?_)
 cases c with
 | true=>exact isTrue_and_nil e
 | false=>exact e
theorem t6(ha:PT X a tA):PW X (.BoolOp .Or [a] pos) tA:=by
 intro wh pins s σ H Q I h
 refine isTrue_or (thn (ha pins s σ H Q I h) fun c s1 e=>?_)
 cases c with
 | false=>exact isTrue_or_nil e
 | true=>exact e
theorem Cy(ha:PT X a tA)(hb:PW X (.BoolOp .And (b::rest) pos) tB'):PW X (.BoolOp .And (a::b::rest) pos) (Yo tA tB'):=by
 intro wh pins s σ H Q I h
 refine isTrue_and (thn (ha pins s σ H _ I h) fun c s1 ⟨H1,I1,q1⟩=>?_)
 cases c with
 | true=>exact hb wh pins s1 σ H1 Q I1 q1
 | false=>exact⟨H1,I1,q1⟩
theorem Eu(ha:PT X a tA)(hb:PW X (.BoolOp .Or (b::rest) pos) tB'):PW X (.BoolOp .Or (a::b::rest) pos) (tOr tA tB'):=by
 intro wh pins s σ H Q I h
 refine isTrue_or (thn (ha pins s σ H _ I h) fun c s1 ⟨H1,I1,q1⟩=>?_)
 cases c with
 | true=>exact⟨H1,I1,q1⟩
 | false=>exact hb wh pins s1 σ H1 Q I1 q1
theorem S8(ha:PT X a tA):PT X (.UnaryOp .Not a pos) (Ym tA):=by
 intro pins s σ H Q I h
 exact isTrue_not (ha pins s σ H (fun c H1=>Q (!c) H1) I h)
noncomputable def Wg(ta tb:TE):TE:=fun σ H Q=>ta σ H fun x H1=>∃c,x = .bl c/\if c=true then tb σ H1 Q else Q (.bl false) H1
theorem Ks{op}{t:TE}(h:PE X a t):PE X (.BoolOp op [a] pos) t:=fun pins s σ H Q I hw=>BoolOp_one (h pins s σ H Q I hw)
theorem Ke(ha:PE X a ta)(hb:PE X (.BoolOp .And (b::rest) pos) tb):PE X (.BoolOp .And (a::b::rest) pos) (Wg ta tb):=by
 intro pins s σ H Q I h
 refine BoolOp_and (thn (ha pins s σ H _ I h) fun v s1 ⟨x,H1,I1,r1,q1⟩=>?_)
 obtain⟨c,rfl,q1⟩:=q1
 cases r1
 refine wpAny_truthy_bool ?_
 cases c with
 | true=>exact hb pins s1 σ H1 Q I1 q1
 | false=>exact⟨.bl false,H1,I1,rfl,q1⟩
noncomputable def tIf(t:TT)(ta tb:TE):TE:=fun σ H Q=>t σ H fun c H1=>if c=true then ta σ H1 Q else tb σ H1 Q
theorem Ox{c:Expr}(hc:PT X c tA)(ha:PE X a ta)(hb:PE X b tb):PE X (.IfExp c a b pos) (tIf tA ta tb):=by
 intro pins s σ H Q I h
 refine wpAny_IfExp (thn (hc pins s σ H _ I h) fun d s1 ⟨H1,I1,q1⟩=>?_)
 cases d with
 | true=>exact ha pins s1 σ H1 Q I1 q1
 | false=>exact hb pins s1 σ H1 Q I1 q1
end
noncomputable def SqL(K:PySem.W.Frag)(H:Hp)(a:Addr)(xs:List V):Prop :=
 Rd H a (.lst xs) \/
  ∃(o:Obj) (its:Array Value) (n:Nat),K.lookup a=some o/\o.cls = .type "list"/\o.dict=none/\o.data = .seq its n/\its.size<=sizeLine/\Vals xs its.toList
noncomputable def SqT(K:PySem.W.Frag)(H:Hp)(a:Addr)(xs:List V):Prop :=
 Rd H a (.tup xs) \/
  ∃(o:Obj) (its:Array Value) (n:Nat),K.lookup a=some o/\o.cls = .type "tuple"/\o.data = .seq its n/\its.size<=sizeLine/\Vals xs its.toList
noncomputable def Yw:Value->Option V
 | .none=>some .non
 | .bool b=>some (.bl b)
 | .int i _=>some (.int i)
 | .str x _=>some (.str x)
 | .bytes b _=>some (.byt b)
 | .float b _=>some (.flt b)
 | .ref a=>some (.ref a)
 | .type n=>some (.ty n)
 | _=>none
theorem RelV.abs{x:V}{u:Value}(r:RelV x u):Yw u=some x:=by
 cases x with
 | non=>cases r;rfl
 | bl _=>cases r;rfl
 | int _=>obtain⟨t,rfl⟩:=r;rfl
 | str _=>obtain⟨t,rfl⟩:=r;rfl
 | byt _=>obtain⟨t,rfl⟩:=r;rfl
 | flt _=>obtain⟨t,rfl⟩:=r;rfl
 | ref _=>cases r;rfl
 | ty _=>cases r;rfl
theorem RelV.inj{x y:V}{u:Value}(r:RelV x u)(q:RelV y u):x=y:=Option.some.inj (r.abs.symm.trans q.abs)
theorem Vals.inj:∀{xs ys:List V} {us:List Value},Vals xs us->Vals ys us->xs=ys
 | _,_,_,.nil,.nil=>rfl
 | _,_,_,.cons r t,.cons r' t'=>by rw[r.inj r',Vals.inj t t']
section
variable{X:Cx}{pins:List (Addr×Obj)}{σ:St}{H:Hp}{s:Shared}{a:Addr}{xs ys:List V}
theorem SqL.of{K:PySem.W.Frag}(h:H a=some (.lst xs)):SqL K H a xs:=.inl (.inl h)
theorem SqT.of{K:PySem.W.Frag}(h:H a=some (.tup xs)):SqT K H a xs:=.inl (.inl h)
theorem Inv.list(I:Inv X pins σ H s)(h:SqL X.K H a xs):∃its:List Value,Vals xs its/\PlainL s.heap a its.toArray/\xs.length<=sizeLine:=by
 rcases h with h | ⟨o,its,n,hk,hc,hd,hs,hz,r⟩
 ·obtain⟨z,its,n,r,e⟩:=h.ok I.hok
  exact⟨its,r,⟨_,n,e,rfl,rfl,rfl⟩,z⟩
 ·refine⟨its.toList,r,⟨o,n,I.kIn a o hk,hc,hd,by simpa using hs⟩,?_⟩
  have e:=r.length
  simp only[Array.length_toList]at e
  omega
theorem Inv.tuple(I:Inv X pins σ H s)(h:SqT X.K H a xs):∃its:List Value,Vals xs its/\IsTup s.heap a its.toArray/\xs.length<=sizeLine:=by
 rcases h with h | ⟨o,its,n,hk,hc,hs,hz,r⟩
 ·obtain⟨z,its,r,p⟩:=h.ok I.hok
  exact⟨its,r,p,z⟩
 ·refine⟨its.toList,r,⟨o,I.kIn a o hk,hc,n,by simpa using hs⟩,?_⟩
  have e:=r.length
  simp only[Array.length_toList]at e
  omega
theorem Inv.list_inj(I:Inv X pins σ H s)(h:SqL X.K H a xs)(h':SqL X.K H a ys):xs=ys:=by
 obtain⟨its,r,⟨o,n,e,_,_,d⟩,_⟩:=I.list h
 obtain⟨its',r',⟨o',n',e',_,_,d'⟩,_⟩:=I.list h'
 rw[e]at e';cases e'
 rw[d]at d'
 injection d' with d1 _
 have:its=its':=by simpa using congrArg Array.toList d1
 subst this
 exact r.inj r'
end
noncomputable abbrev Cx.wish(X:Cx)(E:Value->Shared->Prop):Cx:={ X with xe:=E }
noncomputable abbrev Cx.nox(X:Cx):Cx:=X.wish fun _ _=>False
theorem Cx.Ok.wish{X:Cx}(ok:X.Ok)(E:Value->Shared->Prop):(X.wish E).Ok :=
 ⟨ok.mod,ok.kind,ok.glob,ok.blt,ok.above,ok.inj,ok.has,ok.cab,ok.hd,ok.frames,ok.stk,ok.exf,ok.bs,ok.bsz,ok.noex,ok.exfs,ok.funs,ok.frf⟩
theorem Cx.Ok.unwish{X:Cx}{E:Value->Shared->Prop}(ok:(X.wish E).Ok):X.Ok :=
 ⟨ok.mod,ok.kind,ok.glob,ok.blt,ok.above,ok.inj,ok.has,ok.cab,ok.hd,ok.frames,ok.stk,ok.exf,ok.bs,ok.bsz,ok.noex,ok.exfs,ok.funs,ok.frf⟩
section
variable{X:Cx}{pins:List (Addr×Obj)}{σ:St}{H:Hp}{s:Shared}{E:Value->Shared->Prop}
theorem Inv.wish(I:Inv X pins σ H s)(E:Value->Shared->Prop):Inv (X.wish E) pins σ H s:=⟨I.ok.wish E,I.os,I.bare,I.base,I.loc,I.cell,I.free,I.freeC,I.pin,I.hok,I.len⟩
theorem Inv.unwish(I:Inv (X.wish E) pins σ H s):Inv X pins σ H s:=⟨I.ok.unwish,I.os,I.bare,I.base,I.loc,I.cell,I.free,I.freeC,I.pin,I.hok,I.len⟩
theorem SP.unwish{D:Ends}{f:Flow}{s':Shared}(h:SP (X.wish E) pins D f s'):SP X pins D f s':=by
 cases f with
 | next=>obtain⟨σ',H',I,q⟩:=h;exact⟨σ',H',I.unwish,q⟩
 | brk=>obtain⟨σ',H',I,q⟩:=h;exact⟨σ',H',I.unwish,q⟩
 | cont=>obtain⟨σ',H',I,q⟩:=h;exact⟨σ',H',I.unwish,q⟩
 | ret u=>obtain⟨v,σ',H',I,r,q⟩:=h;exact⟨v,σ',H',I.unwish,r,q⟩
theorem PSs.nox{st:List Stmt}{t:TS}(h:PSs X.nox st t):PSs X st t:=fun pins s σ H D I hw =>
 wpAny_mono (h pins s σ H D (I.wish _) hw) (fun _ _ q=>q.unwish) fun _ _ z=>False.elim z
end
section
variable{X:Cx}{st:Stmt}{rest:List Stmt}{t u:TS}{e:Expr}{te:TE}{pos:Pos}
noncomputable def Xj:TS:=fun D σ H=>D.nx σ H
noncomputable def Ve(t u:TS):TS:=fun D σ H=>t { D with nx:=u D } σ H
theorem D0:PSs X [] Xj:=fun _ _ σ H _ I h=>wpAny_execs_nil ⟨σ,H,I,h⟩
theorem B2(h1:PS X st t)(h2:PSs X rest u):PSs X (st::rest) (Ve t u):=by
 intro pins s σ H D I h
 refine wpAny_execs_cons (thn (h1 pins s σ H { D with nx:=u D } I h) fun f s1 q=>?_)
 cases f with
 | next =>
  obtain⟨σ',H',I',q⟩:=q
  exact h2 pins s1 σ' H' D I' q
 | ret v=>exact q
 | brk=>exact q
 | cont=>exact q
theorem B3(h1:PS X st t):PSs X [st] t:=by
 intro pins s σ H D I h
 refine wpAny_execs_cons (thn (h1 pins s σ H D I h) fun f s1 q=>?_)
 cases f with
 | next=>exact wpAny_execs_nil q
 | ret v=>exact q
 | brk=>exact q
 | cont=>exact q
theorem Inv.quiet{pins:List (Addr×Obj)}{σ:St}{H:Hp}{s:Shared}(I:Inv X pins σ H s):interactive X.env=false:=by simp[interactive,I.ok.kind]
noncomputable def Xk(te:TE):TS:=fun D σ H=>te σ H fun _ H1=>D.nx σ H1
theorem D8(he:PE X e te)(hs:swapsWith e none pos.line X.env=pure false:=by rfl):PS X (.Expr e pos) (Xk te):=by
 intro pins s σ H D I h
 exact wpAny_Expr_any (thn (he pins s σ H _ I h) fun v s1 ⟨x,H1,I1,r1,q1⟩=>⟨σ,H1,I1,q1⟩) I.quiet hs
noncomputable def Xc(te:TE):TS:=fun D σ H=>te σ H D.rt
theorem C1(he:PE X e te):PS X (.Return (some e) pos) (Xc te):=by
 intro pins s σ H D I h
 exact wpAny_Return_some (thn (he pins s σ H _ I h) fun v s1 ⟨x,H1,I1,r1,q1⟩=>⟨x,σ,H1,I1,r1,q1⟩)
noncomputable def Xd:TS:=fun D _ H=>D.rt .non H
theorem Es:PS X (.Return none pos) Xd:=fun _ _ σ H _ I h=>wpAny_Return_none ⟨.non,σ,H,I,rfl,h⟩
noncomputable def Yz(c:TT)(t u:TS):TS:=fun D σ H=>c σ H fun b H1=>if b=true then t D σ H1 else u D σ H1
theorem J7{c:Expr}{a b:List Stmt}{tc:TT}(hc:PT X c tc)(ha:PSs X a t)(hb:PSs X b u):PS X (.If c a b pos) (Yz tc t u):=by
 intro pins s σ H D I h
 refine wpAny_If (thn (hc pins s σ H _ I h) fun d s1 ⟨H1,I1,q1⟩=>?_)
 cases d with
 | true=>exact ha pins s1 σ H1 D I1 q1
 | false=>exact hb pins s1 σ H1 D I1 q1
noncomputable def Vt:TS:=fun _ _ _=>False
theorem Bq:PS X st Vt:=fun _ _ _ _ _ _ h=>h.elim
end
noncomputable abbrev TG:=V->St->Hp->(St->Hp->Prop)->Prop
noncomputable abbrev TGs:=List V->St->Hp->(St->Hp->Prop)->Prop
noncomputable def PG(X:Cx)(target:Expr)(t:TG):Prop :=
 ∀(pins:List (Addr×Obj)) (s:Shared) (σ:St) (H:Hp) (v:V) (u:Value) (Q:St->Hp->Prop),Inv X pins σ H s->RelV v u->t v σ H Q ->
  wpAny (model X.prog X.w) X.A (assign target X.env u) (fun _ s'=>∃σ' H',Inv X pins σ' H' s'/\Q σ' H') X.xe s
noncomputable def PGs(X:Cx)(ts:List Expr)(t:TGs):Prop :=
 ∀(pins:List (Addr×Obj)) (s:Shared) (σ:St) (H:Hp) (vs:List V) (us:List Value) (Q:St->Hp->Prop),Inv X pins σ H s->Vals vs us->t vs σ H Q ->
  wpAny (model X.prog X.w) X.A (assignInOrder ((assignEach ts X.env).map (·.2)) us) (fun _ s'=>∃σ' H',Inv X pins σ' H' s'/\Q σ' H') X.xe s
noncomputable abbrev TSet:=V->V->V->Hp->(Hp->Prop)->Prop
noncomputable def Yc(X:Cx)(t:TSet):Prop :=
 ∀(pins:List (Addr×Obj)) (s:Shared) (σ:St) (H:Hp) (o i v:V) (ov iv u:Value) (Q:Hp->Prop),Inv X pins σ H s->RelV o ov->RelV i iv->RelV v u->t o i v H Q ->
  wpAny (model X.prog X.w) X.A (setItem ov iv u) (fun _ s'=>∃H',Inv X pins σ H' s'/\Q H') X.xe s
noncomputable abbrev TIp:=V->V->Hp->VK->Prop
noncomputable def PIp(X:Cx)(op:Operator)(t:TIp):Prop :=
 ∀(pins:List (Addr×Obj)) (s:Shared) (σ:St) (H:Hp) (x y:V) (v u:Value) (Q:VK),Inv X pins σ H s->RelV x v->RelV y u->t x y H Q ->
  wpAny (model X.prog X.w) X.A (inplaceOp op v u) (EP X pins σ Q) X.xe s
section
variable{X:Cx}{pos:Pos}
noncomputable def T4(i:Nat):TG:=fun v σ H Q=>Q (σ.set i (some v)) H
theorem C4{i:Nat}{x:Str}(hN:X.N.Nodup)(hi:X.N[i]?=some x)(hx:Loc X.env.scope x)(hf:X.fn x=true\/X.env.scope.names.lookup x=some .local:=by first | exact .inl rfl | exact .inr rfl | assumption):PG X (.Name x pos) (T4 i):=by
 intro pins s σ H v u Q I r h
 exact wpAny_assign_Name (Q9 I hN hi hx r (fun s' I'=>⟨_,H,I',h⟩) hf)
noncomputable def Ze:TGs:=fun vs σ H Q=>vs = []/\Q σ H
noncomputable def Xe(t:TG)(u:TGs):TGs:=fun vs σ H Q=>∃v r,vs=v::r/\t v σ H fun σ' H'=>u r σ' H' Q
theorem O1:PGs X [] Ze:=by
 intro pins s σ H vs us Q I r h
 obtain⟨e,h⟩:=h
 subst e
 cases r
 exact assignInOrder_nil ⟨σ,H,I,h⟩
theorem D4{e:Expr}{es:List Expr}{t:TG}{u:TGs}(h1:PG X e t)(h2:PGs X es u)
  (hs:(assignEach (e::es) X.env).map (·.2)=assign e X.env ::(assignEach es X.env).map (·.2):=by rfl):PGs X (e::es) (Xe t u):=by
 intro pins s σ H vs us Q I r h
 obtain⟨v,vr,e1,h⟩:=h
 subst e1
 cases r with
 | cons r rr =>
  rw[hs]
  refine assignInOrder_cons (thn (h1 pins s σ H _ _ _ I r h) fun _ s1 ⟨σ1,H1,I1,q1⟩=>?_)
  exact h2 pins s1 σ1 H1 _ _ Q I1 rr q1
noncomputable def Xz(K:PySem.W.Frag)(n:Nat)(t:TGs):TG:=fun v σ H Q=>∃a xs,v = .ref a/\SqT K H a xs/\xs.length=n/\t xs σ H Q
theorem Vl{es:List Expr}{k:Nat}{t:TGs}{n:Nat}(hc:X.calm=true)(h:PGs X es t)
  (hn:(assignEach es X.env).length=n:=by rfl) (hst:(assignEach es X.env).findIdx? (·.1)=none:=by rfl):PG X (.Tuple es k pos) (Xz X.K n t):=by
 intro pins s σ H v u Q I r hw
 obtain⟨a,xs,e1,hq,hl,hw⟩:=hw
 subst e1
 cases r
 obtain⟨its,rv,ht,hz⟩:=I.tuple hq
 refine assign_Tuple_tuple (I.ok.hd hc) ht (by simp[hn,<-hl,rv.length]) hst fun h' hx=>?_
 have I1:Inv X pins σ H { s with heap:=h' }:=I.kept (t':=s.toks) fun b o e=>hx b o (Nat.ne_of_lt (Heap.lt_size e)) e
 exact h pins _ σ H xs _ Q I1 (by simpa using rv) hw
noncomputable def Yu(to ti:TE)(t:TSet):TG:=fun v σ H Q=>to σ H fun o H1=>ti σ H1 fun i H2=>t o i v H2 fun H3=>Q σ H3
theorem Ge{o i:Expr}{to ti:TE}{t:TSet}(ho:PE X o to)(hi:PE X i ti)(hs:Yc X t)
  (ha:∀v,assign (.Subscript o i pos) X.env v =(do
   let ov <-holding [v] (eval o X.env)
   let iv <-holding [v,ov] (eval i X.env)
   standAt pos
   holding [v,ov,iv] (setItem ov iv v)
   release [v,ov,iv] []):=by intro _;rfl):PG X (.Subscript o i pos) (Yu to ti t):=by
 intro pins s σ H v u Q I r h
 rw[ha]
 refine wpAny_bind (wpAny_holding (thn (ho pins s σ H _ I h) fun ov s1 ⟨x,H1,I1,r1,q1⟩=>?_))
 refine wpAny_bind (wpAny_holding (thn (hi pins s1 σ H1 _ I1 q1) fun iv s2 ⟨y,H2,I2,r2,q2⟩=>?_))
 refine wpAny_bind (wpAny_standAt (wpAny_bind (wpAny_holding (thn (hs pins s2 σ H2 x y v ov iv u _ I2 r1 r2 r q2) fun _ s3 ⟨H3,I3,q3⟩=>?_))))
 exact wpAny_release ⟨σ,H3,I3,q3⟩
noncomputable def Wa(te:TE)(g:TG):TS:=fun D σ H=>te σ H fun x H1=>g x σ H1 D.nx
theorem Z9{tg e:Expr}{te:TE}{g:TG}(he:PE X e te)(hg:PG X tg g)(hs:swapsWithSole [tg] e pos.line X.env=pure false:=by rfl)(hw:swappedStores [tg] e X.env=pure none:=by rfl)
  (h1:(assignEach [tg] X.env).map (·.2) = [assign tg X.env]:=by rfl):PS X (.Assign [tg] e pos) (Wa te g):=by
 intro pins s σ H D I h
 refine wpAny_Assign_stores (thn (he pins s σ H _ I h) fun v s1 ⟨x,H1,I1,r1,q1⟩=>?_) hs hw
 rw[h1]
 exact thn (hg pins s1 σ H1 x v _ I1 r1 q1) fun _ s2 q=>q
theorem C6{i:Nat}{x:Str}{e:Expr}{te:TE}{pos':Pos}(hN:X.N.Nodup)(hi:X.N[i]?=some x)(hx:Loc X.env.scope x)(he:PE X e te)(hs:swapsWith e (some (.Name x pos')) pos.line X.env=pure false:=by rfl)(hf:X.fn x=true\/X.env.scope.names.lookup x=some .local:=by first | exact .inl rfl | exact .inr rfl | assumption) :
  PS X (.Assign [.Name x pos'] e pos) (Wa te (T4 i)):=by
 intro pins s σ H D I h
 refine wpAny_Assign_Name (thn (he pins s σ H _ I h) fun v s1 ⟨y,H1,I1,r1,q1⟩=>?_) hs
 exact Q9 I1 hN hi hx r1 (fun s2 I2=>⟨_,H1,I2,q1⟩) hf
noncomputable def Yy(i j:Nat)(ta:TA):TS:=fun D σ H=>ta σ H fun vs H1=>∃v w,vs = [v,w]/\D.nx ((σ.set i (some v)).set j (some w)) H1
theorem Pn{i j:Nat}{x y:Str}{a b:Expr}{ta:TA}{px py pt:Pos}{kt k2 pt2}(hc:X.calm=true)(hN:X.N.Nodup)(hi:X.N[i]?=some x)(hj:X.N[j]?=some y)(hij:i≠j)
  (hx:X.env.scope.names.lookup x=some .local) (hy:X.env.scope.names.lookup y=some .local) (ha:PA X [a,b] ta)
  (hw:swappedStores [.Tuple [.Name x px,.Name y py] kt pt] (.Tuple [a,b] k2 pt2) X.env=pure (some [x,y]))
  (hs:swapsWithSole [.Tuple [.Name x px,.Name y py] kt pt] (.Tuple [a,b] k2 pt2) pos.line X.env=pure false:=by rfl) :
  PS X (.Assign [.Tuple [.Name x px,.Name y py] kt pt] (.Tuple [a,b] k2 pt2) pos) (Yy i j ta):=by
 intro pins s σ H D I h
 rw[exec_Assign_arm]
 refine wpAny_bind (wpAny_standAt ?_)
 rw[hs]
 refine wpAny_bind (wpAny_pure ?_)
 rw[if_neg (by decide)]
 refine wpAny_bind (Tuple_ (thn (ha _ pins s σ H _ I h) fun us s1 ⟨vs,H1,I1,r1,q1⟩=>?_))
 obtain⟨v,w,e1,q1⟩:=q1
 subst e1
 obtain⟨u1,u2,rfl,rv,rw'⟩:∃u1 u2,us = [u1,u2]/\RelV v u1/\RelV w u2:=by
  cases r1 with
  | cons p q =>
   cases q with
   | cons p' q' =>
    cases q'
    exact⟨_,_,rfl,p,p'⟩
 refine wpAny_newObj_type ?_ (by show 2<=sizeLine;decide)
 have I2:Inv X pins σ H1 { s1 with heap:=s1.heap.push { cls:=.type "tuple",data:=.seq [u1,u2].toArray } }:=I1.kept (t':=s1.toks) fun b o e=>Heap.get?_push_of_some _ e
 rw[hw]
 refine wpAny_bind (wpAny_pure ?_)
 show wpAny (model X.prog X.w) X.A (do rule "assign.swapped-stores";let items <-unpackItems (.ref s1.heap.objs.size) 2 none;assignInOrder [fun v=>bindName X.env y v,fun v=>bindName X.env x v] items.reverse;pure Flow.next) _ _ _
 refine wpAny_bind (wpAny_rule (wpAny_bind (unpackItems_tuple (items:=#[u1,u2]) (I.ok.hd hc) (IsTup.new s1.heap _) fun h' hx'=>?_)))
 have I3:=I2.kept (h':=h') (t':=s1.toks) fun b o e=>hx' b o (Nat.ne_of_lt (Heap.lt_size e)) e
 show wpAny _ _ (assignInOrder [fun v=>bindName X.env y v,fun v=>bindName X.env x v] [u2,u1] >>= fun _=>pure Flow.next) _ _ _
 refine wpAny_bind (assignInOrder_cons (wpAny_bindName (Q9 I3 hN hj (.inl hy) rw' (fun s2 I4=>?_) (.inr hy))))
 refine assignInOrder_cons (wpAny_bindName (Q9 I4 hN hi (.inl hx) rv (fun s3 I5=>assignInOrder_nil (wpAny_pure ?_)) (.inr hx)))
 rw[List.set_comm _ _ (Ne.symm hij)]at I5
 exact⟨_,H1,I5,q1⟩
noncomputable def Yv(i:Nat)(te:TE)(ti:TIp):TS:=fun D σ H=>∃x,σ[i]?=some (some x)/\te σ H fun y H1=>ti x y H1 fun z H2=>D.nx (σ.set i (some z)) H2
theorem Uv{i:Nat}{x:Str}{e:Expr}{te:TE}{op:Operator}{ti:TIp}{pos':Pos}(hN:X.N.Nodup)(hi:X.N[i]?=some x)(hx:Loc X.env.scope x)(he:PE X e te)(ho:PIp X op ti)(hf:X.fn x=true\/X.env.scope.names.lookup x=some .local:=by first | exact .inl rfl | exact .inr rfl | assumption) :
  PS X (.AugAssign (.Name x pos') op e pos) (Yv i te ti):=by
 intro pins s σ H D I h
 obtain⟨v,e1,h⟩:=h
 obtain⟨m,hn,hl⟩:=I.loc
 have vis:Vis X.env.scope x:=by rcases hx with k | k;exact .inl k;exact .inr (.inl k)
 obtain⟨u,r,l⟩:=hl i x v hi e1 vis
 refine wpAny_AugAssign_Name ?_
 have go:wpAny (model X.prog X.w) X.A (eval e X.env) (fun w s₂=>wpAny (model X.prog X.w) X.A (inplaceOp op u w) (fun r s₃=>wpAny (model X.prog X.w) X.A (storeName X.env x r) (fun _=>SP X pins D .next) X.xe s₃) X.xe s₂) X.xe s:=by
  refine thn (he pins s σ H _ I h) fun w s1 ⟨y,H1,I1,r1,q1⟩=>?_
  refine thn (ho pins s1 σ H1 v y u w _ I1 r r1 q1) fun z s2 ⟨zv,H2,I2,r2,q2⟩=>?_
  exact Q9 I2 hN hi hx r2 (fun s3 I3=>⟨_,H2,I3,q2⟩) hf
 rcases l with⟨hk,hm⟩ | ⟨hk,c,hc,hcell⟩
 ·exact wpAny_loadName_local I.ok.kind hk hn hm go
 ·rcases hk with hk | hk
  ·exact wpAny_loadName_cell I.ok.kind hk hc hcell go
  ·rcases hx with k | k
   ·have:X.env.scope.names.lookup x=some .free:=hk
    rw[k]at this;cases this
   ·have:X.env.scope.names.lookup x=some .free:=hk
    rw[k]at this;cases this
noncomputable def ipI(f:Int->Int->Int):TIp:=fun x y H Q=>∃i j,x = .int i/\y = .int j/\Q (.int (f i j)) H
noncomputable def Vc(c:TT)(tb:TS):TS:=fun D σ H=>∃W:Nat->St->Hp->Prop,(∃m,W m σ H)/\∀m σ H,W m σ H ->
 c σ H fun b H1=>if b=true then ∃N:St->Hp->Prop,(∀σ' H',N σ' H'->∃m',m' < m/\W m' σ' H')/\tb { D with nx:=N,ct:=N,bk:=D.nx } σ H1 else D.nx σ H1
theorem Gq{c:Expr}{body:List Stmt}{tc:TT}{tb:TS}(hp:PassesOwn (model X.prog X.w) X.A X.env X.xe)(hc:PT X c tc)(hb:PSs X body tb):PS X (.While c body [] pos) (Vc tc tb):=by
 intro pins s σ H D I h
 obtain⟨W,⟨m0,w0⟩,turn⟩:=h
 refine wpAny_While (codeAny_whileLoop (fun n s'=>∃σ' H',Inv X pins σ' H' s'/\W n σ' H') ?_ m0 ⟨σ,H,I,w0⟩)
 rintro n s1 ⟨σ1,H1,I1,w1⟩
 refine wpAny_passesOwn hp (thn (hc pins s1 σ1 H1 _ I1 (turn n σ1 H1 w1)) fun b s2 ⟨H2,I2,q2⟩=>?_)
 cases b with
 | true =>
  obtain⟨N,hN,q2⟩:=q2
  rw[if_pos rfl]
  refine wpAny_passesOwn hp (thn (hb pins s2 σ1 H2 _ I2 q2) fun f s3 q3=>?_)
  cases f with
  | next =>
   obtain⟨σ3,H3,I3,n3⟩:=q3
   obtain⟨m',hm,w3⟩:=hN σ3 H3 n3
   exact⟨m',hm,σ3,H3,I3,w3⟩
  | cont =>
   obtain⟨σ3,H3,I3,n3⟩:=q3
   obtain⟨m',hm,w3⟩:=hN σ3 H3 n3
   exact⟨m',hm,σ3,H3,I3,w3⟩
  | brk=>exact q3
  | ret v=>exact q3
 | false =>
  rw[if_neg Bool.false_ne_true]
  exact wpAny_execs_nil ⟨σ1,H2,I2,q2⟩
end
structure It where
 go:Nat->Hp->Prop
 yld:Nat->Hp->V->Hp->Prop
 stop:Nat->Hp->Prop
noncomputable def u9(X:Cx)(pins:List (Addr×Obj))(H:Hp)(b:Addr):Prop :=
 H b=none/\b≠X.env.locals/\b∉X.fs/\(b∈X.ex\/X.s₀.heap.objs.size<=b)/\(∀x c,X.env.cells.lookup x=some c->c≠b)/\∀p∈X.pn++pins,p.1≠b
theorem Inv.fpOk{X:Cx}{pins:List (Addr×Obj)}{σ:St}{H H':Hp}{s:Shared}{b:Addr}(I:Inv X pins σ H s)(hb:s.heap.objs.size<=b)(hn:H' b=none):u9 X pins H' b:=by
 refine⟨hn,Nat.ne_of_gt (Nat.lt_of_lt_of_le I.lt hb),I.nofs hb,.inr (Nat.le_trans I.sz hb),fun x c e z=>?_,fun p hp z=>?_⟩
 ·obtain⟨v,q⟩:=I.cell x c e
  exact absurd (Nat.lt_of_lt_of_le q.lt (by rw[z];exact hb)) (Nat.lt_irrefl _)
 ·exact absurd (Nat.lt_of_lt_of_le (Heap.lt_size (I.pin p hp).1) (by rw[z];exact hb)) (Nat.lt_irrefl _)
structure Turn(P:Program)(w:World)(K:PySem.W.Frag)(tg:Expr)(J:It)(fp:List Addr)(it:Addr)(tn:Nat->Heap->Prop):Prop where
 mem:it∈fp
 obj:∀i h,tn i h->∀b∈fp,∃o,h.get? b=some o/\∀v,o.data≠ .cell v
 keep:∀i h h',tn i h->(∀b∈fp,∀o,h.get? b=some o->h'.get? b=some o)->tn i h'
 item:∀(X:Cx),X.prog=P->X.w=w->X.K=K->X.calm=true->∀(i:Nat) (pins:List (Addr×Obj)) (s:Shared) (σ:St) (H:Hp) (E:Value->Shared->Prop),Inv X pins σ H s->(∀b∈fp,u9 X pins H b)->tn i s.heap->J.go i H ->
  wpAny (model P w) X.A (pyNext (.ref it)) (fun r s1=>∃u,r=some u /\
   wpAny (model P w) X.A (letOwnedTupleGo tg (.ref it) u) (fun _ s2=>∃x H',Inv X pins σ H' s2/\RelV x u/\J.yld i H x H'/\tn (i+1) s2.heap/\∀b∈fp,H' b=none) E s1) E s
 done:∀(X:Cx),X.prog=P->X.w=w->X.K=K->X.calm=true->∀(i:Nat) (pins:List (Addr×Obj)) (s:Shared) (σ:St) (H:Hp) (E:Value->Shared->Prop),Inv X pins σ H s->(∀b∈fp,u9 X pins H b)->tn i s.heap->J.stop i H ->
  wpAny (model P w) X.A (pyNext (.ref it)) (fun r s1=>r=none/\Inv X pins σ H s1) E s
 self:∀(A:Around) (i:Nat) (s:Shared) (Q:Value->Shared->Prop) (E:Value->Shared->Prop),tn i s.heap->Q (.ref it) s->wpAny (model P w) A (pyIter (.ref it)) Q E s
noncomputable abbrev TI:=St->Hp->(It->Hp->Prop)->Prop
noncomputable def PIE(X:Cx)(pins:List (Addr×Obj))(σ:St)(tg:Expr)(R:It->Hp->Prop)(itv:Value)(s2:Shared):Prop :=
 ∃(it:Addr) (fp:List Addr) (tn:Nat->Heap->Prop) (J:It) (H':Hp),itv = .ref it/\Inv X pins σ H' s2/\Turn X.prog X.w X.K tg J fp it tn/\tn 0 s2.heap/\(∀b∈fp,u9 X pins H' b)/\R J H'
noncomputable def PI(X:Cx)(tg iter:Expr)(wi:TI):Prop :=
 ∀(pins:List (Addr×Obj)) (s:Shared) (σ:St) (H:Hp) (R:It->Hp->Prop),Inv X pins σ H s->wi σ H R ->
  wpAny (model X.prog X.w) X.A (eval iter X.env) (fun v s1=>wpAny (model X.prog X.w) X.A (pyIter v) (PIE X pins σ tg R) X.xe s1) X.xe s
theorem Me{M:Model}{A:Around}{E:Value->Shared->Prop}{s:Shared}{tg:Expr}{it:Addr}{u:Value}{o:Obj}{n:String}{vs:Array Value}{Q:Unit->Shared->Prop}(ho:s.heap.get? it=some o)(hc:o.cls = .type n)(hd:o.data = .fields vs)
    (hn:["enumerate", "zip", "dict_itemiterator", "dict_reverseitemiterator", "odict_iterator", "itertools.zip_longest", "itertools.pairwise"].contains n=false) (hQ:Q () s):wpAny M A (letOwnedTupleGo tg (.ref it) u) Q E s:=by
  unfold letOwnedTupleGo
  cases tg<;>first
    | exact wpAny_pure hQ
    | (cases u<;>first
        | exact wpAny_pure hQ
        | (refine wpAny_bind (wpAny_load ho ?_)
           rw[hc,hd]
           show wpAny M A (if(["enumerate", "zip", "dict_itemiterator", "dict_reverseitemiterator", "odict_iterator", "itertools.zip_longest", "itertools.pairwise"].contains n&&vs[0]? == some (rawInt _))=true then _ else _) Q E s
           rw[if_neg (by intro h;rw[hn,Bool.false_and]at h;cases h)]
           exact wpAny_pure hQ))
noncomputable def Itl(K:PySem.W.Frag)(a:Addr):It :=
 ⟨fun i H=>∃xs x,SqL K H a xs/\xs[i]?=some x,fun i H x H'=>H'=H/\∀xs,SqL K H a xs->xs[i]?=some x,fun i H=>∃xs,SqL K H a xs/\xs.length<=i⟩
noncomputable def Itr(lo:Int)(n:Nat):It:=⟨fun i _=>i<n,fun i H x H'=>H'=H/\x = .int (lo+i),fun i _=>n<=i⟩
theorem Mz{P:Program}{w:World}{K:PySem.W.Frag}{tg:Expr}(a it:Addr):Turn P w K tg (Itl K a) [it] it (fun i h=>h.IsListIter it a i) where
 mem:=by simp
 obj:=fun i h st b hb=>by
  have e:b=it:=by simpa using hb
  subst e
  obtain⟨o,e,c,d⟩:=st
  exact⟨o,e,fun v z=>by rw[d]at z;cases z⟩
 keep:=fun i h h' st k=>st.at fun o e=>k it (by simp) o e
 item:=by
  intro X hP hw hK hc i pins s σ H E I hf st hg
  subst hP hw hK
  obtain⟨xs,x,hq,hx⟩:=hg
  obtain⟨its,rv,p,hz⟩:=I.list hq
  obtain⟨u,hu,ru⟩:=rv.get hx
  obtain⟨f0,f1,f2,f3,f4,f5⟩:=hf it (by simp)
  refine wpAny_pyNext_list_item st p.isList (x:=u) (by simpa using hu) fun h' st' sb=>?_
  have I1:Inv X pins σ H { s with heap:=h' }:=I.turned (t':=s.toks) (fun b o hb e=>(sb.2 b hb).trans e) f0 f1 f3 f4 f5
  obtain⟨o,e,c,d⟩:=id st'
  exact⟨u,rfl,Me (s:={ s with heap:=h' }) e c d (by decide) ⟨x,H,I1,ru,⟨rfl,fun ys hy=>by rw[I.list_inj hy hq];exact hx⟩,st',fun b hb=>(hf b hb).1⟩⟩
 done:=by
  intro X hP hw hK hc i pins s σ H E I hf st hg
  subst hP hw hK
  obtain⟨xs,hq,hx⟩:=hg
  obtain⟨its,rv,p,hz⟩:=I.list hq
  obtain⟨f0,f1,f2,f3,f4,f5⟩:=hf it (by simp)
  have hl:=rv.length
  exact wpAny_pyNext_list_end (I.ok.hd hc) st p.isList (by simp;omega) fun h' eb=>⟨rfl,I.turned (t':=s.toks) (fun b o hb e=>eb b o hb e) f0 f1 f3 f4 f5⟩
 self:=fun _ _ _ _ _ st h=>wpAny_pyIter_listiter st h
theorem Iw{P:Program}{w:World}{K:PySem.W.Frag}{tg:Expr}(it:Addr)(lo:Int)(n:Nat):Turn P w K tg (Itr lo n) [it] it (fun i h=>IsRangeIter h it (lo +(i:Nat)*1) ((n:Int)-(i:Nat)) 1) where
 mem:=by simp
 obj:=fun i h st b hb=>by
  have e:b=it:=by simpa using hb
  subst e
  exact⟨_,st,fun v z=>by
   have z':Data.fields _=Data.cell v:=z
   cases z'⟩
 keep:=fun i h h' st k=>k it (by simp) _ st
 item:=by
  intro X hP hw hK hc i pins s σ H E I hf st hg
  subst hP hw hK
  obtain⟨f0,f1,f2,f3,f4,f5⟩:=hf it (by simp)
  have W:=Walks.range (prog:=X.prog) (w:=X.w) (I.ok.hd hc) it lo 1 n
  refine W.item i s _ _ hg st fun v h' tk hv st' kk=>?_
  obtain⟨t,rfl⟩:=hv
  have I1:Inv X pins σ H { s with heap:=h',toks:=tk }:=I.turned (fun b o hb e=>kk b o (by simpa using hb) e) f0 f1 f3 f4 f5
  refine⟨_,rfl,Me (s:={ s with heap:=h',toks:=tk }) (n := "range_iterator") st' rfl rfl (by decide) ⟨.int (lo+i),H,I1,⟨t,?_⟩,⟨rfl,rfl⟩,st',fun b hb=>(hf b hb).1⟩⟩
  rw[Int.mul_one]
 done:=by
  intro X hP hw hK hc i pins s σ H E I hf st hg
  subst hP hw hK
  obtain⟨f0,f1,f2,f3,f4,f5⟩:=hf it (by simp)
  exact wpAny_pyNext_range_end (I.ok.hd hc) st (by have:n<=i:=hg;omega) fun h' eb=>⟨rfl,I.turned (t':=s.toks) (fun b o hb e=>eb b o hb e) f0 f1 f3 f4 f5⟩
 self:=fun _ _ _ _ _ st h=>wpAny_pyIter_rangeiter st h
section
variable{X:Cx}{tg:Expr}
noncomputable def Uq(K:PySem.W.Frag)(tl:TE):TI:=fun σ H R=>tl σ H fun x H1=>∃a,x = .ref a/\(∃xs,SqL K H1 a xs)/\R (Itl K a) H1
theorem Ri{l:Expr}{tl:TE}(hl:PE X l tl):PI X tg l (Uq X.K tl):=by
 intro pins s σ H R I h
 refine thn (hl pins s σ H _ I h) fun v s1 ⟨x,H1,I1,r1,q1⟩=>?_
 obtain⟨a,e,⟨xs,hq⟩,q⟩:=q1
 subst e
 cases r1
 obtain⟨its,rv,p,hz⟩:=I1.list hq
 refine wpAny_pyIter_list p.isList ?_
 refine⟨s1.heap.objs.size,[s1.heap.objs.size],_,_,H1,rfl,I1.kept (t':=s1.toks) fun b o e=>Heap.get?_push_of_some _ e,Mz a _,⟨_,Heap.get?_push_size _ rfl,rfl,rfl⟩,fun b hb=>?_,q⟩
 have e:b=s1.heap.objs.size:=by simpa using hb
 subst e
 exact I1.fpOk (Nat.le_refl _) (I1.hok.fresh (Nat.le_refl _))
theorem Ou{pins:List (Addr×Obj)}{σ:St}{H:Hp}{s:Shared}{R:It->Hp->Prop}{E:Value->Shared->Prop}{lo hi:Int}{t u v:Tok}{tk:Nat}(I:Inv X pins σ H s)(h1:-(2^62)<=lo)(h2:lo<2^62)(h3:-(2^62)<=hi)(h4:hi<2^62)
  (q:R (Itr lo (hi-lo).toNat) H):wpAny (model X.prog X.w) X.A (pyIter (.ref s.heap.objs.size)) (PIE X pins σ tg R) E { s with heap:=s.heap.push { cls:=.type "range",data:=.fields #[.int lo t,.int hi u,.int 1 v] },toks:=tk }:=by
 refine wpAny_pyIter_range (IsRange.new ..) (small_one h1 h2 h3 h4) ?_
 have I1:Inv X pins σ H { s with heap:=s.heap.push { cls:=.type "range",data:=.fields #[.int lo t,.int hi u,.int 1 v] },toks:=tk }:=I.kept fun b o e=>Heap.get?_push_of_some _ e
 refine⟨(s.heap.push { cls:=.type "range",data:=.fields #[.int lo t,.int hi u,.int 1 v] }).objs.size,[(s.heap.push { cls:=.type "range",data:=.fields #[.int lo t,.int hi u,.int 1 v] }).objs.size],_,_,H,rfl,
  I1.kept (t':=tk) fun b o e=>Heap.get?_push_of_some _ e,Iw _ lo (hi-lo).toNat,?_,fun b hb=>?_,q⟩
 ·have e1:lo +((0:Nat):Int)*1=lo:=by simp
  have e2:(((hi-lo).toNat:Nat):Int)-((0:Nat):Int)=Builtin.Range.rangeSize lo hi 1:=by rw[rangeSize_one];split<;>omega
  show IsRangeIter _ _ (lo +((0:Nat):Int)*1) ((((hi-lo).toNat:Nat):Int)-((0:Nat):Int)) 1
  rw[e1,e2]
  exact Heap.get?_push_size _ rfl
 ·have e:b =(s.heap.push { cls:=.type "range",data:=.fields #[.int lo t,.int hi u,.int 1 v] }).objs.size:=by simpa using hb
  subst e
  exact I1.fpOk (Nat.le_refl _) (I1.hok.fresh (Nat.le_refl _))
noncomputable def Tm(ta:TA):TI:=fun σ H R=>ta σ H fun vs H1=>∃j:Int,vs = [.int j]/\-(2^62)<=j/\j<2^62/\R (Itr 0 j.toNat) H1
theorem Nf{a:Expr}{ta:TA}{p pos:Pos}(hg:Gl X "range")(hm:X.mg "range" = none)(ha:PA X [a] ta)(hs:starEach [a] X.env = [(false,eval a X.env)]:=by rfl):PI X tg (.Call (.Name "range" p) [a] [] pos) (Tm ta):=by
 intro pins s σ H R I h
 refine Call_ (y4 I hg hm boot_range (PyProof.Rows.callWith_type1 (thn (ha pos pins s σ H _ I h) fun us s1 ⟨vs,H1,I1,r1,q1⟩=>?_) hs rfl))
 obtain⟨j,e,q1,q2,q⟩:=q1
 subst e
 cases r1 with
 | cons r rr =>
  cases rr
  obtain⟨t,rfl⟩:=r
  exact call_range_1 (Ou I1 (by omega) (by omega) q1 q2 (by simpa using q))
noncomputable def Yx(wi:TI)(g:TG)(tb:TS):TS:=fun D σ H=>wi σ H fun J H1=>∃W:Nat->Nat->St->Hp->Prop,(∃m,W 0 m σ H1)/\∀i m σ H,W i m σ H ->
 (J.stop i H/\D.nx σ H)\/(J.go i H/\∃N:St->Hp->Prop,(∀σ' H',N σ' H'->∃m',m' < m/\W (i+1) m' σ' H')/\∀x H',J.yld i H x H'->g x σ H' fun σ2 H2=>tb { D with nx:=N,ct:=N,bk:=D.nx } σ2 H2)
noncomputable def Cq(fp:List Addr)(h:Heap):List (Addr×Obj):=fp.filterMap fun b=>(h.get? b).map fun o=>(b,o)
theorem R9{fp:List Addr}{h:Heap}{b:Addr}{o:Obj}(hb:b∈fp)(e:h.get? b=some o):(b,o)∈Cq fp h:=List.mem_filterMap.mpr ⟨b,hb,by rw[e];rfl⟩
theorem Nd{fp:List Addr}{h:Heap}{p:Addr×Obj}(hp:p∈Cq fp h):p.1∈fp/\h.get? p.1=some p.2:=by
 obtain⟨b,hb,e⟩:=List.mem_filterMap.mp hp
 cases q:h.get? b with
 | none=>rw[q]at e;cases e
 | some o =>
  rw[q]at e
  have e':(b,o)=p:=Option.some.inj e
  subst e'
  exact⟨hb,q⟩
theorem Inv.pinned{pins:List (Addr×Obj)}{σ:St}{H:Hp}{s:Shared}{fp:List Addr}(I:Inv X pins σ H s)(hf:∀b∈fp,u9 X pins H b)(ho:∀b∈fp,∃o,s.heap.get? b=some o/\∀v,o.data≠ .cell v):Inv X (pins++Cq fp s.heap) σ H s :=
 I.pins_of fun p hp=>(List.mem_append.mp hp).elim (fun z=>I.pin p (List.mem_append_right _ z)) fun z=>by
  obtain⟨hb,e⟩:=Nd z
  obtain⟨f0,f1,f2,_⟩:=hf p.1 hb
  obtain⟨o,e',d⟩:=ho p.1 hb
  rw[e]at e';cases e'
  exact⟨e,f0,f1,f2,d⟩
theorem Inv.unpinned{pins pl:List (Addr×Obj)}{σ:St}{H:Hp}{s:Shared}(I:Inv X (pins++pl) σ H s):Inv X pins σ H s:=I.pins_of fun p hp=>I.pin p (List.mem_append_right _ (List.mem_append_left _ hp))
theorem J9{iter:Expr}{body:List Stmt}{wi:TI}{g:TG}{tb:TS}{pos:Pos}(hp:PassesOwn (model X.prog X.w) X.A X.env X.xe)(hc:X.calm=true)(hi:PI X tg iter wi)(hg:PG X tg g)(hb:PSs X body tb)
  (hs:∀x,foldedSetIterable iter X.env x=pure x:=by intro _;rfl):PS X (.For tg iter body [] pos) (Yx wi g tb):=by
 intro pins s σ H D I h
 refine wpAny_For (thn (hi pins s σ H _ I h) fun v s1 h1=>thn h1 fun itv s2 h2=>?_) hs
 obtain⟨it,fp,tn,J,H2,e,I2,T,st2,f2,W,⟨m0,w0⟩,turn⟩:=h2
 subst e
 have stat:∀{H':Hp},(∀b∈fp,H' b=none)->∀b∈fp,u9 X pins H' b:=fun hn b hb=>⟨hn b hb,(f2 b hb).2⟩
 refine codeAny_forLoop_any (fun n s'=>∃i σ' H',Inv X pins σ' H' s'/\tn i s'.heap/\(∀b∈fp,H' b=none)/\W i n σ' H') ?_ m0 ⟨0,σ,H2,I2,st2,fun b hb=>(f2 b hb).1,w0⟩
 rintro n s3 ⟨i,σ3,H3,I3,st3,fr3,w3⟩
 rcases turn i n σ3 H3 w3 with⟨stop,qn⟩ | ⟨go,N,hN,step⟩
 ·refine wpAny_passesOwn hp (thn (T.done X rfl rfl rfl hc i pins s3 σ3 H3 X.xe I3 (stat fr3) st3 stop) fun r s4 ⟨hr,I4⟩=>?_)
  subst hr
  exact wpAny_execs_nil ⟨σ3,H3,I4,qn⟩
 ·refine wpAny_passesOwn hp (thn (T.item X rfl rfl rfl hc i pins s3 σ3 H3 X.xe I3 (stat fr3) st3 go) fun r s4 ⟨u,hr,h4⟩=>?_)
  subst hr
  refine wpAny_passesOwn hp (thn h4 fun _ s5 ⟨x,H5,I5,r5,y5,st5,fr5⟩=>?_)
  have I5':=I5.pinned (stat fr5) (T.obj _ _ st5)
  refine wpAny_passesOwn hp (thn (hg _ s5 σ3 H5 x u _ I5' r5 (step x H5 y5)) fun _ s6 ⟨σ6,H6,I6,q6⟩=>?_)
  refine wpAny_passesOwn hp (thn (hb _ s6 σ6 H6 _ I6 q6) fun f s7 q7=>?_)
  have again:∀{σ7:St} {H7:Hp},Inv X (pins++Cq fp s5.heap) σ7 H7 s7->N σ7 H7->∃m,m<n/\∃i σ' H',Inv X pins σ' H' s7/\tn i s7.heap/\(∀b∈fp,H' b=none)/\W i m σ' H':=fun{σ7 H7} I7 n7=>by
   obtain⟨m',hm,w7⟩:=hN σ7 H7 n7
   refine⟨m',hm,i+1,σ7,H7,I7.unpinned,T.keep _ _ _ st5 fun b hb o e=>(I7.pin (b,o) (List.mem_append_right _ (List.mem_append_right _ (R9 hb e)))).1,fun b hb=>?_,w7⟩
   obtain⟨o,e,d⟩:=T.obj _ _ st5 b hb
   exact(I7.pin (b,o) (List.mem_append_right _ (List.mem_append_right _ (R9 hb e)))).2.1
  cases f with
  | next=>obtain⟨σ7,H7,I7,n7⟩:=q7;exact again I7 n7
  | cont=>obtain⟨σ7,H7,I7,n7⟩:=q7;exact again I7 n7
  | brk=>obtain⟨σ7,H7,I7,q7⟩:=q7;exact⟨σ7,H7,I7.unpinned,q7⟩
  | ret v=>obtain⟨x7,σ7,H7,I7,r7,q7⟩:=q7;exact⟨x7,σ7,H7,I7.unpinned,r7,q7⟩
end
theorem Jk{lo:Int}{n:Nat}{g:TG}{tb:TS}{D:Ends}{σ:St}{H:Hp}(Pv:Nat->St->Hp->Prop)(h0:Pv 0 σ H)
  (hs:∀i σ H,i<n->Pv i σ H->g (.int (lo+i)) σ H fun σ2 H2=>tb { D with nx:=Pv (i+1),ct:=Pv (i+1),bk:=D.nx } σ2 H2) (hd:∀σ H,Pv n σ H->D.nx σ H) :
  ∃W:Nat->Nat->St->Hp->Prop,(∃m,W 0 m σ H)/\∀i m σ H,W i m σ H ->
   ((Itr lo n).stop i H/\D.nx σ H)\/((Itr lo n).go i H/\∃N:St->Hp->Prop,(∀σ' H',N σ' H'->∃m',m' < m/\W (i+1) m' σ' H')/\∀x H',(Itr lo n).yld i H x H'->g x σ H' fun σ2 H2=>tb { D with nx:=N,ct:=N,bk:=D.nx } σ2 H2):=by
 refine⟨fun i m σ H=>m=n-i/\i<=n/\Pv i σ H,⟨n,by simp,Nat.zero_le _,h0⟩,?_⟩
 rintro i m σ H ⟨rfl,hi,p⟩
 by_cases hlt:i<n
 ·refine .inr ⟨hlt,Pv (i+1),fun σ' H' p'=>⟨n-(i+1),by omega,rfl,hlt,p'⟩,fun x H' y=>?_⟩
  obtain⟨e,y⟩:=y
  subst e y
  exact hs i σ _ hlt p
 ·have e:i=n:=by omega
  subst e
  exact .inl ⟨Nat.le_refl _,hd σ H p⟩
noncomputable abbrev R2:=V->V->Hp->VK->Prop
noncomputable def OpR(X:Cx)(f:Value->Value->Sem Value)(r:R2):Prop :=
 ∀(pins:List (Addr×Obj)) (s:Shared) (σ:St) (H:Hp) (x y:V) (v u:Value) (Q:VK),Inv X pins σ H s->RelV x v->RelV y u->r x y H Q ->
  wpAny (model X.prog X.w) X.A (f v u) (EP X pins σ Q) X.xe s
noncomputable def UnR(X:Cx)(f:Value->Sem Value)(r:V->Hp->VK->Prop):Prop :=
 ∀(pins:List (Addr×Obj)) (s:Shared) (σ:St) (H:Hp) (x:V) (v:Value) (Q:VK),Inv X pins σ H s->RelV x v->r x H Q ->
  wpAny (model X.prog X.w) X.A (f v) (EP X pins σ Q) X.xe s
noncomputable def E7(X:Cx)(f:Value)(r:List V->Hp->VK->Prop):Prop :=
 ∀(pins:List (Addr×Obj)) (s:Shared) (σ:St) (H:Hp) (xs:List V) (us:List Value) (Q:VK),Inv X pins σ H s->Vals xs us->r xs H Q ->
  wpAny (model X.prog X.w) X.A (call f us) (EP X pins σ Q) X.xe s
noncomputable def Yq(X:Cx)(r:V->Hp->(Bool->Hp->Prop)->Prop):Prop :=
 ∀(pins:List (Addr×Obj)) (s:Shared) (σ:St) (H:Hp) (x:V) (v:Value) (Q:Bool->Hp->Prop),Inv X pins σ H s->RelV x v->r x H Q ->
  wpAny (model X.prog X.w) X.A (truthy v) (TP X pins σ Q) X.xe s
noncomputable def tOp(r:R2)(ta tb:TE):TE:=fun σ H Q=>ta σ H fun x H1=>tb σ H1 fun y H2=>r x y H2 Q
noncomputable def tUn(r:V->Hp->VK->Prop)(ta:TE):TE:=fun σ H Q=>ta σ H fun x H1=>r x H1 Q
noncomputable def rI(C:Int->Int->Prop)(g:Int->Int->V):R2:=fun x y H Q=>∃i j,x = .int i/\y = .int j/\C i j/\Q (g i j) H
noncomputable def rI0(g:Int->Int->V):R2:=fun x y H Q=>∃i j,x = .int i/\y = .int j/\Q (g i j) H
noncomputable def rU(g:Int->V):V->Hp->VK->Prop:=fun x H Q=>∃i,x = .int i/\Q (g i) H
section
variable{X:Cx}{a b c:Expr}{ta tb tc:TE}{pos:Pos}
theorem Wj(ha:PE X a ta)(hb:PE X b tb){pins:List (Addr×Obj)}{s:Shared}{σ:St}{H:Hp}{R:V->V->Hp->Prop}(I:Inv X pins σ H s)
  (h:ta σ H fun x H1=>tb σ H1 fun y H2=>R x y H2) {Q:Value->Shared->Prop} {f:Value->Value->Sem Value}
  (hf:∀v u s2 x y H2,Inv X pins σ H2 s2->RelV x v->RelV y u->R x y H2->wpAny (model X.prog X.w) X.A (f v u) Q X.xe s2) :
  wpAny (model X.prog X.w) X.A (eval a X.env) (fun v s₁=>wpAny (model X.prog X.w) X.A (eval b X.env) (fun u s₂=>wpAny (model X.prog X.w) X.A (f v u) Q X.xe s₂) X.xe s₁) X.xe s:=by
 refine thn (ha pins s σ H _ I h) fun v s1 ⟨x,H1,I1,r1,q1⟩=>?_
 refine thn (hb pins s1 σ H1 _ I1 q1) fun u s2 ⟨y,H2,I2,r2,q2⟩=>?_
 exact hf v u s2 x y H2 I2 r1 r2 q2
theorem C2{op:Operator}{r:R2}(ho:OpR X (binaryOp op) r)(ha:PE X a ta)(hb:PE X b tb):PE X (.BinOp a op b pos) (tOp r ta tb):=by
 intro pins s σ H Q I h
 exact wpAny_BinOp (Wj ha hb I h fun v u s2 x y H2 I2 rx ry q=>ho pins s2 σ H2 x y v u Q I2 rx ry q)
theorem Oo{op:UnaryOp}{r:V->Hp->VK->Prop}(ho:UnR X (unaryOp op) r)(ha:PE X a ta):PE X (.UnaryOp op a pos) (tUn r ta):=by
 intro pins s σ H Q I h
 exact UnaryOp_ (thn (ha pins s σ H _ I h) fun v s1 ⟨x,H1,I1,r1,q1⟩=>ho pins s1 σ H1 x v Q I1 r1 q1)
theorem opI{f:Value->Value->Sem Value}{C:Int->Int->Prop}{g:Int->Int->Int}
  (rule:∀(i j:Int) (t u:Tok) (s:Shared) (Q:Value->Shared->Prop) (E:Value->Shared->Prop),C i j->Q (.int (g i j) s.toks) { s with toks:=s.toks+1 }->wpAny (model X.prog X.w) X.A (f (.int i t) (.int j u)) Q E s) :
  OpR X f (rI C fun i j=>.int (g i j)):=by
 intro pins s σ H x y v u Q I rx ry h
 obtain⟨i,j,rfl,rfl,hc,q⟩:=h
 obtain⟨t,rfl⟩:=rx
 obtain⟨t',rfl⟩:=ry
 exact rule i j t t' s _ _ hc ⟨.int (g i j),H,I.tok _,⟨_,rfl⟩,q⟩
theorem Wc{f:Value->Value->Sem Value}{g:Int->Int->Int}
  (rule:∀(i j:Int) (t u:Tok) (s:Shared) (Q:Value->Shared->Prop) (E:Value->Shared->Prop),Q (.int (g i j) s.toks) { s with toks:=s.toks+1 }->wpAny (model X.prog X.w) X.A (f (.int i t) (.int j u)) Q E s) :
  OpR X f (rI0 fun i j=>.int (g i j)):=by
 intro pins s σ H x y v u Q I rx ry h
 obtain⟨i,j,rfl,rfl,q⟩:=h
 obtain⟨t,rfl⟩:=rx
 obtain⟨t',rfl⟩:=ry
 exact rule i j t t' s _ _ ⟨.int (g i j),H,I.tok _,⟨_,rfl⟩,q⟩
theorem Wd{f:Value->Value->Sem Value}{g:Int->Int->Bool}
  (rule:∀(i j:Int) (t u:Tok) (s:Shared) (Q:Value->Shared->Prop) (E:Value->Shared->Prop),Q (.bool (g i j)) s->wpAny (model X.prog X.w) X.A (f (.int i t) (.int j u)) Q E s) :
  OpR X f (rI0 fun i j=>.bl (g i j)):=by
 intro pins s σ H x y v u Q I rx ry h
 obtain⟨i,j,rfl,rfl,q⟩:=h
 obtain⟨t,rfl⟩:=rx
 obtain⟨t',rfl⟩:=ry
 exact rule i j t t' s _ _ ⟨.bl (g i j),H,I,rfl,q⟩
noncomputable def Yj(i j:Int):Prop:=0<j/\j<1073741824
noncomputable def Ya(i j:Int):Prop:=0<=j/\j<=1000000/\i.natAbs<2^64
noncomputable def CMul(i j:Int):Prop:=(-(2^64)<i/\i<2^64)\/(-(2^64)<j/\j<2^64)
theorem CMul.ok{i j:Int}(h:CMul i j):IntMulOk i j:=by
 rcases h with⟨h1,h2⟩ | ⟨h1,h2⟩
 ·exact .of_left (intBits_le_64 h1 h2)
 ·exact .of_right (intBits_le_64 h1 h2)
theorem Hz(k:Nat):(0:Int)<=2^k:=by
 rw[two_pow_cast]
 exact Int.natCast_nonneg _
theorem h9:OpR X (binaryOp .Add) (rI0 fun i j=>.int (i+j)):=Wc fun _ _ _ _ _ _ _ q=>add_int q
theorem Ag:OpR X (binaryOp .Mult) (rI CMul fun i j=>.int (i*j)):=opI fun _ _ _ _ _ _ _ hc q=>mul_int q hc.ok
theorem Lf:OpR X (binaryOp .FloorDiv) (rI Yj fun i j=>.int (i / j)):=opI fun i j _ _ _ _ _ hc q=>by
 have h1:(0:Int)<j:=hc.1
 have h2:j<1073741824:=hc.2
 exact floordiv_int (by omega) (by rw[Int.fdiv_eq_ediv_of_nonneg i (by omega)];exact q) (.inl (PyProof.noPylong_small (by omega)))
theorem Dg:OpR X (binaryOp .Mod) (rI (fun _ j=>0<j) fun i j=>.int (i % j)):=opI fun i j _ _ _ _ _ hc q=>by
 have h1:(0:Int)<j:=hc
 exact mod_int' (by omega) (by rw[Int.fmod_eq_emod_of_nonneg i (by omega)];exact q)
theorem Vs:OpR X (binaryOp .Pow) (rI Ya fun i j=>.int (i^j.toNat)):=opI fun _ _ _ _ _ _ _ hc q=>pow_int_small hc.1 hc.2.1 hc.2.2 q
theorem y3:OpR X (binaryOp .LShift) (rI Ya fun i j=>.int (i*2^j.toNat)):=opI fun _ _ _ _ _ _ _ hc q=>lshift_int_small hc.1 hc.2.1 hc.2.2 q
theorem Pq:OpR X (binaryOp .RShift) (rI (fun _ j=>0<=j) fun i j=>.int (i / 2^j.toNat)):=opI fun i j _ _ _ _ _ hc q =>
 rshift_int hc (by rw[Int.fdiv_eq_ediv_of_nonneg i (Hz _)];exact q)
theorem M9:OpR X (binaryOp .BitAnd) (rI0 fun i j=>.int (Builtin.bitAnd i j)):=Wc fun _ _ _ _ _ _ _ q=>and_int q
theorem U6:OpR X (binaryOp .BitOr) (rI0 fun i j=>.int (Builtin.bitOr i j)):=Wc fun _ _ _ _ _ _ _ q=>or_int q
theorem He:OpR X (binaryOp .BitXor) (rI0 fun i j=>.int (Builtin.bitXor i j)):=Wc fun _ _ _ _ _ _ _ q=>xor_int q
theorem unI{f:Value->Sem Value}{g:Int->Int}
  (rule:∀(i:Int) (t:Tok) (s:Shared) (Q:Value->Shared->Prop) (E:Value->Shared->Prop),Q (.int (g i) s.toks) { s with toks:=s.toks+1 }->wpAny (model X.prog X.w) X.A (f (.int i t)) Q E s) :
  UnR X f (rU fun i=>.int (g i)):=by
 intro pins s σ H x v Q I rx h
 obtain⟨i,rfl,q⟩:=h
 obtain⟨t,rfl⟩:=rx
 exact rule i t s _ _ ⟨.int (g i),H,I.tok _,⟨_,rfl⟩,q⟩
theorem Ur:UnR X (unaryOp .USub) (rU fun i=>.int (-i)):=unI fun _ _ _ _ _ q=>neg_int q
theorem Kp:UnR X (unaryOp .Invert) (rU fun i=>.int (Builtin.bitNot i)):=unI fun _ _ _ _ _ q=>invert_int q
end
noncomputable def Xr:V->V->Bool
 | .non,.non=>true | .non,.int _=>true | .int _,.non=>true | .non,.bl _=>true | .bl _,.non=>true | .non,.str _=>true | .str _,.non=>true
 | .int _,.int _=>true | .bl _,.bl _=>true | .str _,.str _=>true | .byt _,.byt _=>true
 | .int _,.str _=>true | .str _,.int _=>true | .bl _,.str _=>true | .str _,.bl _=>true
 | _,_=>false
noncomputable def rEq:R2:=fun x y H Q=>Xr x y=true/\Q (.bl (decide (x=y))) H
noncomputable def rNe:R2:=fun x y H Q=>Xr x y=true/\Q (.bl (!decide (x=y))) H
theorem Mu{i j:Int}:decide (V.int i=V.int j) =(i == j):=by
 rw[Bool.eq_iff_iff]
 simp
theorem Qo{i j:Bool}:decide (V.bl i=V.bl j) =(i == j):=by
 rw[Bool.eq_iff_iff]
 simp
theorem Lp{i j:Str}:decide (V.str i=V.str j) =(i == j):=by
 rw[Bool.eq_iff_iff]
 simp
theorem Kg{i j:Array UInt8}:decide (V.byt i=V.byt j) =(i.toList == j.toList):=by
 rw[Bool.eq_iff_iff]
 cases i
 cases j
 simp
section
variable{X:Cx}{a b c:Expr}{ta tb tc:TE}{pos:Pos}
theorem C9{pins:List (Addr×Obj)}{σ:St}{H:Hp}{s:Shared}{Q:VK}{k k':Bool}(I:Inv X pins σ H s)(q:Q (.bl k) H)(e:k=k'):EP X pins σ Q (.bool k') s:=by
 subst e
 exact⟨.bl k,H,I,rfl,q⟩
theorem U1:OpR X (compareOp .Eq) rEq:=by
 intro pins s σ H x y v u Q I rx ry h
 obtain⟨hs,q⟩:=h
 cases x with
 | non =>
  cases rx
  cases y with
  | non=>cases ry;exact PySem.EqNone.eq_none_none (C9 I q (by simp))
  | bl j=>cases ry;exact PySem.EqNone.eq_none_bool (C9 I q (by simp))
  | int j=>obtain⟨t',rfl⟩:=ry;exact PySem.EqNone.eq_none_int (C9 I q (by simp))
  | str j=>obtain⟨t',rfl⟩:=ry;exact PySem.EqNone.eq_none_str (C9 I q (by simp))
  | _=>exact absurd (show false=true from hs) Bool.false_ne_true
 | bl i =>
  cases rx
  cases y with
  | non=>cases ry;exact PySem.EqNone.eq_bool_none (C9 I q (by simp))
  | bl j=>cases ry;exact eq_bool (C9 I q Qo)
  | str j=>obtain⟨t',rfl⟩:=ry;exact PySem.EqMixed.eq_bool_str (C9 I q (by simp))
  | _=>exact absurd (show false=true from hs) Bool.false_ne_true
 | int i =>
  obtain⟨t,rfl⟩:=rx
  cases y with
  | non=>cases ry;exact PySem.EqNone.eq_int_none (C9 I q (by simp))
  | int j=>obtain⟨t',rfl⟩:=ry;exact eq_int (C9 I q Mu)
  | str j=>obtain⟨t',rfl⟩:=ry;exact PySem.EqMixed.eq_int_str (C9 I q (by simp))
  | _=>exact absurd (show false=true from hs) Bool.false_ne_true
 | str i =>
  obtain⟨t,rfl⟩:=rx
  cases y with
  | non=>cases ry;exact PySem.EqNone.eq_str_none (C9 I q (by simp))
  | bl j=>cases ry;exact PySem.EqMixed.eq_str_bool (C9 I q (by simp))
  | int j=>obtain⟨t',rfl⟩:=ry;exact PySem.EqMixed.eq_str_int (C9 I q (by simp))
  | str j=>obtain⟨t',rfl⟩:=ry;exact eq_str (C9 I q Lp)
  | _=>exact absurd (show false=true from hs) Bool.false_ne_true
 | byt i =>
  obtain⟨t,rfl⟩:=rx
  cases y with
  | byt j=>obtain⟨t',rfl⟩:=ry;exact PySem.W.eq_bytes (C9 I q Kg)
  | _=>exact absurd (show false=true from hs) Bool.false_ne_true
 | _=>cases y<;>exact absurd (show false=true from hs) Bool.false_ne_true
theorem Qx:OpR X (compareOp .NotEq) rNe:=by
 intro pins s σ H x y v u Q I rx ry h
 obtain⟨hs,q⟩:=h
 cases x with
 | non =>
  cases rx
  cases y with
  | non=>cases ry;exact PySem.EqNone.ne_none_none (C9 I q (by simp))
  | bl j=>cases ry;exact PySem.EqNone.ne_none_bool (C9 I q (by simp))
  | int j=>obtain⟨t',rfl⟩:=ry;exact PySem.EqNone.ne_none_int (C9 I q (by simp))
  | str j=>obtain⟨t',rfl⟩:=ry;exact PySem.EqNone.ne_none_str (C9 I q (by simp))
  | _=>exact absurd (show false=true from hs) Bool.false_ne_true
 | bl i =>
  cases rx
  cases y with
  | non=>cases ry;exact PySem.EqNone.ne_bool_none (C9 I q (by simp))
  | bl j=>cases ry;exact ne_bool (C9 I q (congrArg not Qo))
  | str j=>obtain⟨t',rfl⟩:=ry;exact PySem.EqMixed.ne_bool_str (C9 I q (by simp))
  | _=>exact absurd (show false=true from hs) Bool.false_ne_true
 | int i =>
  obtain⟨t,rfl⟩:=rx
  cases y with
  | non=>cases ry;exact PySem.EqNone.ne_int_none (C9 I q (by simp))
  | int j=>obtain⟨t',rfl⟩:=ry;exact ne_int (C9 I q (congrArg not Mu))
  | str j=>obtain⟨t',rfl⟩:=ry;exact PySem.EqMixed.ne_int_str (C9 I q (by simp))
  | _=>exact absurd (show false=true from hs) Bool.false_ne_true
 | str i =>
  obtain⟨t,rfl⟩:=rx
  cases y with
  | non=>cases ry;exact PySem.EqNone.ne_str_none (C9 I q (by simp))
  | bl j=>cases ry;exact PySem.EqMixed.ne_str_bool (C9 I q (by simp))
  | int j=>obtain⟨t',rfl⟩:=ry;exact PySem.EqMixed.ne_str_int (C9 I q (by simp))
  | str j=>obtain⟨t',rfl⟩:=ry;exact ne_str (C9 I q (congrArg not Lp))
  | _=>exact absurd (show false=true from hs) Bool.false_ne_true
 | byt i =>
  obtain⟨t,rfl⟩:=rx
  cases y with
  | byt j=>obtain⟨t',rfl⟩:=ry;exact PySem.W.ne_bytes (C9 I q (congrArg not Kg))
  | _=>exact absurd (show false=true from hs) Bool.false_ne_true
 | _=>cases y<;>exact absurd (show false=true from hs) Bool.false_ne_true
theorem Wk:OpR X (compareOp .Lt) (rI0 fun i j=>.bl (decide (i<j))):=Wd fun _ _ _ _ _ _ _ q=>lt_int q
theorem Vq:OpR X (compareOp .LtE) (rI0 fun i j=>.bl (decide (i<=j))):=Wd fun _ _ _ _ _ _ _ q=>le_int q
theorem Wn:OpR X (compareOp .Gt) (rI0 fun i j=>.bl (decide (j<i))):=Wd fun _ _ _ _ _ _ _ q=>gt_int q
theorem Xp:OpR X (compareOp .GtE) (rI0 fun i j=>.bl (decide (j<=i))):=Wd fun _ _ _ _ _ _ _ q=>ge_int q
theorem Jm:OpR X (compareOp .In) (fun x y H Q=>∃i j,x = .str i/\y = .str j/\Q (.bl (!(Builtin.Str.occurrences j i 0 j.length 1).isEmpty)) H):=by
 intro pins s σ H x y v u Q I rx ry h
 obtain⟨i,j,rfl,rfl,q⟩:=h
 obtain⟨t,rfl⟩:=rx
 obtain⟨t',rfl⟩:=ry
 exact in_str (C9 I q rfl)
theorem E3(b:Expr){op:CmpOp}(h:op≠ .In:=by decide)(h2:op≠ .NotIn:=by decide):behindInMarks op b=false:=by
 have e1:(op == CmpOp.In)=false:=by cases op<;>first | rfl | exact absurd rfl h
 have e2:(op == CmpOp.NotIn)=false:=by cases op<;>first | rfl | exact absurd rfl h2
 cases b<;>simp[behindInMarks,e1,e2]
theorem O3{op:CmpOp}{r:R2}(ho:OpR X (compareOp op) r)(ha:PE X a ta)(hb:PE X b tb)(hm:behindInMarks op b=false):PE X (.Compare a [op] [b] pos) (tOp r ta tb):=by
 intro pins s σ H Q I h
 exact wpAny_Compare1 (Wj ha hb I h fun v u s2 x y H2 I2 rx ry q=>ho pins s2 σ H2 x y v u Q I2 rx ry q) hm
noncomputable def Ud(t:TE):TT:=fun σ H Q=>t σ H fun x H'=>∃k,x = .bl k/\Q k H'
theorem C8{op:CmpOp}{r:R2}(ho:OpR X (compareOp op) r)(ha:PE X a ta)(hb:PE X b tb)(hm:behindInMarks op b=false):PT X (.Compare a [op] [b] pos) (Ud (tOp r ta tb)):=by
 intro pins s σ H Q I h
 refine wpAny_isTrue_Compare1 (thn (ha pins s σ H _ I h) fun v s1 ⟨x,H1,I1,r1,q1⟩=>thn (hb pins s1 σ H1 _ I1 q1) fun u s2 ⟨y,H2,I2,r2,q2⟩ =>
  thn (ho pins s2 σ H2 x y v u _ I2 r1 r2 q2) fun c s3 ⟨z,H3,I3,r3,k,e,q3⟩=>?_) hm
 subst e
 cases r3
 exact wpAny_truthy_bool ⟨H3,I3,q3⟩
noncomputable def Vf(r r':R2)(ta tb tc:TE):TE:=fun σ H Q=>ta σ H fun x H1=>tb σ H1 fun y H2=>r x y H2 fun z H3=>∃k,z = .bl k /\
 (if k=true then tc σ H3 fun w' H4=>r' y w' H4 Q else Q (.bl false) H3)
theorem Oz{op op':CmpOp}{r r':R2}(ho:OpR X (compareOp op) r)(ho':OpR X (compareOp op') r')(ha:PE X a ta)(hb:PE X b tb)(hc:PE X c tc)
  (hm:lastMarks [op,op'] [b,c]=false:=by with_unfolding_all rfl):PT X (.Compare a [op,op'] [b,c] pos) (Ud (Vf r r' ta tb tc)):=by
 intro pins s σ H Q I h
 refine isTrue_chain (thn (ha pins s σ H _ I h) fun v s1 ⟨x,H1,I1,r1,q1⟩=>test_link (thn (hb pins s1 σ H1 _ I1 q1) fun u s2 ⟨y,H2,I2,r2,q2⟩ =>
  thn (ho pins s2 σ H2 x y v u _ I2 r1 r2 q2) fun d s3 ⟨z,H3,I3,r3,k,e,q3⟩=>?_)) hm
 subst e
 cases r3
 refine wpAny_truthy_bool ?_
 cases k with
 | false =>
  obtain⟨k',e',q'⟩:=q3
  cases e'
  exact ite_ff ⟨H3,I3,q'⟩
 | true =>
  refine ite_tt (test_last (thn (hc pins s3 σ H3 _ I3 q3) fun w' s4 ⟨z',H4,I4,r4,q4⟩=>thn (ho' pins s4 σ H4 y z' u w' _ I4 r2 r4 q4) fun d' s5 ⟨z2,H5,I5,r5,k2,e2,q5⟩=>?_))
  subst e2
  cases r5
  exact wpAny_truthy_bool ⟨H5,I5,q5⟩
noncomputable def Xh(K:PySem.W.Frag)(x:V)(H:Hp)(k:Bool):Prop :=
 match x with
 | .non=>k=false
 | .bl b=>k=b
 | .int i=>k =(i != 0)
 | .str y=>y.length<=sizeLine/\k =((y.length:Int) != 0)
 | .byt y=>y.size<=sizeLine/\k =((y.size:Int) != 0)
 | .ref p=>(∃xs,SqL K H p xs/\k=!xs.isEmpty)\/(∃xs,SqT K H p xs/\k=!xs.isEmpty)\/∃kvs,H p=some (.dK kvs)/\k=!kvs.isEmpty
 | _=>False
theorem Hy{κ:Type}{kvs:List (κ×V)}{vs:List (κ×Value)}(r:KV kvs vs):(!vs.isEmpty)=!kvs.isEmpty:=by
 cases r<;>rfl
theorem Ad{xs:List V}{its:List Value}(r:Vals xs its):(!its.toArray.isEmpty)=!xs.isEmpty:=by
 cases r<;>simp
theorem Ab:(sizeLine:Nat)<2^63:=by rw[sizeLine_eq];decide
theorem Uo:Yq X (fun x H Q=>∃k,Xh X.K x H k/\Q k H):=by
 intro pins s σ H x v Q I rx h
 obtain⟨k,e,q⟩:=h
 have hl:=Ab
 have hs:sizeLine=16777216:=sizeLine_eq
 cases x with
 | non =>
  cases rx
  have e':k=false:=e
  subst e'
  exact truthy_none ⟨H,I,q⟩
 | bl b =>
  cases rx
  have e':k=b:=e
  subst e'
  exact wpAny_truthy_bool ⟨H,I,q⟩
 | int i =>
  obtain⟨t,rfl⟩:=rx
  have e':k =(i != 0):=e
  subst e'
  exact PySem.P.truthy_int ⟨H,I,q⟩
 | str y =>
  obtain⟨t,rfl⟩:=rx
  obtain⟨hy,e'⟩:y.length<=sizeLine/\k =((y.length:Int) != 0):=e
  subst e'
  exact PySem.P.truthy_str (by omega) ⟨H,I.tok _,q⟩
 | byt y =>
  obtain⟨t,rfl⟩:=rx
  obtain⟨hy,e'⟩:y.size<=sizeLine/\k =((y.size:Int) != 0):=e
  subst e'
  exact PySem.W.truthy_bytes (by omega) ⟨H,I.tok _,q⟩
 | ref p =>
  cases rx
  have e':(∃xs,SqL X.K H p xs/\k=!xs.isEmpty)\/(∃xs,SqT X.K H p xs/\k=!xs.isEmpty)\/∃kvs,H p=some (.dK kvs)/\k=!kvs.isEmpty:=e
  rcases e' with⟨xs,hx,e'⟩ | ⟨xs,hx,e'⟩ | ⟨kvs,hx,e'⟩
  ·subst e'
   obtain⟨its,r,pl,hz⟩:=I.list hx
   have hlen:=r.length
   exact wpAny_truthy_list pl.isList (by simp only[List.size_toArray];omega) ⟨H,I.tok _,by rw[Ad r];exact q⟩
  ·subst e'
   obtain⟨its,r,pl,hz⟩:=I.tuple hx
   have hlen:=r.length
   exact truthy_tuple pl (by simp only[List.size_toArray];omega) ⟨H,I.tok _,by rw[Ad r];exact q⟩
  ·subst e'
   obtain⟨hz,hS,vs,r,m⟩:kvs.length<=sizeLine/\(p == sysModules)=false/\∃vs,KV kvs vs/\s.heap.DictOf (C0 X.prog X.w) p vs:=I.hok p _ hx
   have hlen:kvs.length=vs.length:=Paired.length r
   exact wpAny_truthy_dict hS m (by omega) ⟨H,I.tok _,by rw[Hy r];exact q⟩
 | _=>exact(show False from e).elim
theorem Np(ha:PE X a ta)(he:∀whole,isTrue a X.env whole =(do let v <-whole;standAt a.pos;holding [v] (truthy v))) :
  PT X a (fun σ H Q=>ta σ H fun x H'=>∃k,Xh X.K x H' k/\Q k H'):=by
 intro pins s σ H Q I h
 exact isTrue_plain (thn (ha pins s σ H _ I h) fun v s1 ⟨x,H1,I1,r1,q1⟩=>Uo pins s1 σ H1 x v Q I1 r1 q1) (he _)
theorem V1{x:V}{us:List Value}(r:Vals [x] us):∃u,us = [u]/\RelV x u:=by
 cases r with
 | cons r1 r2=>cases r2;exact⟨_,rfl,r1⟩
theorem Ul{x y:V}{us:List Value}(r:Vals [x,y] us):∃u w',us = [u,w']/\RelV x u/\RelV y w':=by
 cases r with
 | cons r1 r2 =>
  cases r2 with
  | cons r3 r4=>cases r4;exact⟨_,_,rfl,r1,r3⟩
theorem Hc:E7 X (.builtin "abs") (fun xs H Q=>∃i,xs = [.int i]/\Q (.int (if i<0 then -i else i)) H):=by
 intro pins s σ H xs us Q I r h
 obtain⟨i,rfl,q⟩:=h
 obtain⟨u,rfl,t,rfl⟩:=V1 r
 exact call_abs_int fun u tk=>⟨.int (if i<0 then -i else i),H,I.tok _,⟨_,rfl⟩,q⟩
theorem Mc(hc:X.calm=true):E7 X (.builtin "max") (fun xs H Q=>∃i j,xs = [.int i,.int j]/\Q (.int (if j>i then j else i)) H):=by
 intro pins s σ H xs us Q I r h
 obtain⟨i,j,rfl,q⟩:=h
 obtain⟨u,w',rfl,⟨t,rfl⟩,⟨t',rfl⟩⟩:=Ul r
 refine max_two_ints (I.ok.hd hc) fun h' tk k=>⟨_,H,I.kept k,?_,q⟩
 by_cases hj:j>i
 ·rw[if_pos hj,if_pos hj];exact⟨_,rfl⟩
 ·rw[if_neg hj,if_neg hj];exact⟨_,rfl⟩
theorem Lk(hc:X.calm=true):E7 X (.builtin "min") (fun xs H Q=>∃i j,xs = [.int i,.int j]/\Q (.int (if j<i then j else i)) H):=by
 intro pins s σ H xs us Q I r h
 obtain⟨i,j,rfl,q⟩:=h
 obtain⟨u,w',rfl,⟨t,rfl⟩,⟨t',rfl⟩⟩:=Ul r
 refine min_two_ints (I.ok.hd hc) fun h' tk k=>⟨_,H,I.kept k,?_,q⟩
 by_cases hj:j<i
 ·rw[if_pos hj,if_pos hj];exact⟨_,rfl⟩
 ·rw[if_neg hj,if_neg hj];exact⟨_,rfl⟩
theorem Lq:E7 X (.type "int") (fun xs H Q=>(∃i,xs = [.int i]/\Q (.int i) H)\/∃k,xs = [.bl k]/\Q (.int (if k then 1 else 0)) H):=by
 intro pins s σ H xs us Q I r h
 rcases h with⟨i,rfl,q⟩ | ⟨k,rfl,q⟩
 ·obtain⟨u,rfl,t,rfl⟩:=V1 r
  exact call_int_int ⟨.int i,H,I,⟨_,rfl⟩,q⟩
 ·obtain⟨u,rfl,r1⟩:=V1 r
  cases r1
  exact call_int_bool ⟨.int (if k then 1 else 0),H,I.tok _,⟨_,rfl⟩,q⟩
end
structure ObjM(h:Heap)(x dx C:Addr)(mA:Str->Option Value):Prop where
 obj:h.get? x=some (PySem.W.instObj C dx)
 ns:h.Ns1 dx mA
 ne:dx≠x
theorem Kd{h:Heap}{dx:Addr}{mA:Str->Option Value}(n:h.Ns1 dx mA):∃od,h.get? dx=some od/\∀name,PySem.W.lookIn name od=some (mA name):=by
 obtain⟨o,es,ep,ho,hd,hk,_,hm⟩:=n
 refine⟨o,ho,fun name=>?_⟩
 have e:=hm name
 unfold nsFind findBy at e
 rw[<-Array.find?_toList]at e
 unfold PySem.W.lookIn
 rw[hd]
 dsimp only
 split
 ·rename_i y q
  rw[q]at e
  exact congrArg some e
 ·rename_i q
  rw[q]at e
  have a:es.toList.any (·.refKey)=false:=by
   rw[List.any_eq_false]
   intro y hy
   obtain⟨z,t,hkey⟩:=hk y (Array.mem_toList_iff.mp hy)
   simp[DictEntry.refKey,hkey]
  have a':¬es.toList.any (·.refKey)=true:=by rw[a];exact Bool.false_ne_true
  rw[if_neg a']
  exact congrArg some e
theorem ObjM.look{h:Heap}{x dx C:Addr}{mA:Str->Option Value}(I:ObjM h x dx C mA):∃od,PySem.W.InstAt h x (PySem.W.instObj C dx) C (some od)/\∀name,PySem.W.lookIn name od=some (mA name) :=
 let⟨od,ho,hl⟩:=Kd I.ns
 ⟨od,⟨I.obj,rfl,rfl,ho⟩,hl⟩
section
variable{prog:Program}{w:World}{A:Around}{E:Value->Shared->Prop}{s:Shared}{K:PySem.W.Frag}{x dx C f:Addr}{mA:Str->Option Value}{name:Str}{v:Value}
theorem Se{expr:Bool}{Q:Value->Shared->Prop}(X:K.In s.heap)(I:ObjM s.heap x dx C mA)(hg:PySem.W.plainGet K C name=true)(hh:PySem.W.hasDictIn K C=true)
  (ha:PySem.W.findIn K (.ref C) name=some none) (hv:mA name=some v) (hv':PySem.W.handedIn v=true) (h:Q v { s with toks:=s.toks+1 }) :
  wpAny (model prog w) A (getAttr (.ref x) name expr) Q E s:=by
 obtain⟨od,J,hl⟩:=I.look
 exact PySem.W.get_value X J (PySem.W.plainGet_of hg).1 (PySem.W.findObj_own hh ha rfl (by rw[hl,hv])) hv' h
theorem Nu{pl:Sem Bool}{Q:Value×List Value->Shared->Prop}(X:K.In s.heap)(I:ObjM s.heap x dx C mA)(hg:PySem.W.plainGet K C name=true)
  (hf:PySem.W.findIn K (.ref C) name=some (some (.ref f))) (ht:PySem.W.isFn K (.ref f)=true) (hv:mA name=none) (h:Q (.ref f,[.ref x]) s) :
  wpAny (model prog w) A (getMethod (.ref x) name pl) Q E s:=by
 obtain⟨od,J,hl⟩:=I.look
 exact PySem.W.method_fn X J (PySem.W.plainGet_of hg).1 (PySem.W.plainGet_of hg).2 hf (beq_iff_eq.mp ht) (by show(PySem.W.lookIn name od).map (·.isSome)=some false;rw[hl,hv];rfl) h
theorem Rr{ns:List Str}{Q:Unit->Shared->Prop}(X:K.In s.heap)(I:ObjM s.heap x dx C mA)
  (hs:PySem.W.findIn K (.ref C) "__setattr__" = some (some (.builtin "object.__setattr__"))) (hp:PySem.W.plainOver K C=true) (ht:PySem.W.takerIn K C name=some none) (hh:PySem.W.hasDictIn K C=true)
  (hw:PySem.Within mA ns) (hsz:ns.length<=sizeLine)
  (h:∀h',ObjM h' x dx C (fun y=>if y=name then some v else mA y)->Heap.SameBut dx s.heap h'->Q () { s with heap:=h',toks:=s.toks+2 }) :
  wpAny (model prog w) A (setAttr (.ref x) name v) Q E s:=by
 obtain⟨od,J,hl⟩:=I.look
 refine PySem.W.set_plain X J hs (PySem.W.osa_open (s:={ s with toks:=s.toks+1 }) (r:=none) X J hp ht fun b=>?_)
 obtain⟨cd,hc,hd'⟩:=PySem.W.any_some hh
 have hx:s.heap.get? x=some ⟨.ref C,some dx,.plain,#[]⟩:=I.obj
 refine wpAny_bind (wpAny_pure (wpAny_bind (wpAny_bind (wpAny_loadPart hx (wpAny_bind (PySem.W.Looks.here (s:={ s with toks:=s.toks+1 }) (PySem.W.looks_clsIn X hc) ?_))))))
 rw[hd']
 refine wpAny_pure (a:=some dx) (wpAny_bind (wpAny_pure (wpAny_bind ?_)))
 refine wpAny_nsSet1 (s:={ s with toks:=s.toks+1 }) I.ns fun h' hn2 hs2=>?_
 obtain⟨oD,esD,epD,hoD,hdD,hcD⟩:=hn2.count (PySem.Within.cons name v hw)
 refine wpAny_bind (wpAny_lookBehind hoD (by rw[hdD];exact pastItsLine_dict (Nat.le_trans hcD (by rw[List.length_cons];omega))) ?_)
 exact wpAny_pure (h _ ⟨(hs2.2 _ (Ne.symm I.ne)).trans I.obj,hn2,I.ne⟩ hs2)
theorem Om{R:Result->Shared->Prop}{vs:List Value}{kw:List (Str×Value)}(X:K.In s.heap)(hm:PySem.W.makesIn K C=true)
  (hi:PySem.W.findIn K (.ref C) "__init__" = some (some (.ref f))) (hf:PySem.W.typeIn K (.ref f)=some (.type "function"))
  (h:codeAny (model prog w) (A.under (.builtin "type.__call__" ⟨.ref C::vs,kw⟩)) (.call (.ref f) ⟨.ref (s.heap.objs.size+1)::vs,kw⟩) (PySem.W.InitBack (s.heap.objs.size+1) R)
   { s with heap:=(s.heap.push PySem.W.emptyDict).push (PySem.W.instObj C s.heap.objs.size) }) :
  codeAny (model prog w) A (.call (.ref C) ⟨vs,kw⟩) R s:=by
 obtain⟨hh,g,d,t,os⟩:=s
 exact PySem.W.make_core (PySem.W.makes_of X hm) (PySem.W.looks_findIn X hi) (fun self=>PySem.W.bind_fn X self hf) (.inl rfl) h
end
noncomputable def J2(f:Str)(v:V):List (Str×V)->List (Str×V)
 | []=>[(f,v)]
 | (g,x)::r=>if g=f then(g,v)::r else(g,x)::J2 f v r
theorem l9(f g:Str)(v:V):∀fs:List (Str×V),(J2 f v fs).lookup g=if g=f then some v else fs.lookup g
 | []=>by
  show List.lookup g [(f,v)]=_
  by_cases h:g=f
  ·have hb:(g == f)=true:=beq_iff_eq.mpr h
   simp only[List.lookup,hb,if_pos h]
  ·have hb:(g == f)=false:=beq_eq_false_iff_ne.mpr h
   simp only[List.lookup,hb,if_neg h]
 | (k,x)::r=>by
  have ih:=l9 f g v r
  rw[show J2 f v ((k,x)::r) =(if k=f then(k,v)::r else(k,x)::J2 f v r)from rfl]
  by_cases hk:k=f
  ·rw[if_pos hk]
   by_cases h:g=k
   ·have hb:(g == k)=true:=beq_iff_eq.mpr h
    simp only[List.lookup,hb,if_pos (h.trans hk)]
   ·have hb:(g == k)=false:=beq_eq_false_iff_ne.mpr h
    simp only[List.lookup,hb,if_neg (fun e:g=f=>h (e.trans hk.symm))]
  ·rw[if_neg hk]
   by_cases h:g=k
   ·have hb:(g == k)=true:=beq_iff_eq.mpr h
    simp only[List.lookup,hb,if_neg (fun e:g=f=>hk (h.symm.trans e))]
   ·have hb:(g == k)=false:=beq_eq_false_iff_ne.mpr h
    simp only[List.lookup,hb]
    exact ih
theorem r9(f:Str)(v:V):∀fs:List (Str×V),f∈(J2 f v fs).map (·.1)/\∀g,g∈fs.map (·.1)->g∈(J2 f v fs).map (·.1)
 | []=>⟨by simp[J2],fun g h=>by simp at h⟩
 | (k,x)::r=>by
  obtain⟨i1,i2⟩:=r9 f v r
  rw[show J2 f v ((k,x)::r) =(if k=f then(k,v)::r else(k,x)::J2 f v r)from rfl]
  by_cases hk:k=f
  ·rw[if_pos hk]
   subst hk
   exact⟨by simp,fun g h=>by simpa using h⟩
  ·rw[if_neg hk]
   refine⟨?_,fun g h=>?_⟩
   ·rw[List.map_cons]
    exact List.mem_cons_of_mem _ i1
   ·rw[List.map_cons]at h⊢
    rcases List.mem_cons.mp h with e | e
    ·exact List.mem_cons.mpr (.inl e)
    ·exact List.mem_cons_of_mem _ (i2 g e)
theorem f9(f:Str)(v:V):∀fs:List (Str×V),(J2 f v fs).length<=fs.length+1
 | []=>by simp[J2]
 | (k,x)::r=>by
  have ih:=f9 f v r
  rw[show J2 f v ((k,x)::r) =(if k=f then(k,v)::r else(k,x)::J2 f v r)from rfl]
  by_cases hk:k=f
  ·rw[if_pos hk,List.length_cons,List.length_cons];omega
  ·rw[if_neg hk,List.length_cons,List.length_cons];omega
theorem RelO.some_of{v:V}{o:Option Value}(r:RelO (some v) o):∃u,o=some u/\RelV v u:=by
 cases o with
 | none=>exact(show False from r).elim
 | some u=>exact⟨u,rfl,r⟩
theorem RelO.none_of{o:Option Value}(r:RelO none o):o=none:=by
 cases o with
 | none=>rfl
 | some u=>exact(show False from r).elim
theorem Jn{v:V}{u:Value}(r:RelV v u):PySem.W.handedIn u=true:=by
 cases v with
 | non=>cases(show u=Value.none from r);rfl
 | bl b=>cases(show u=Value.bool b from r);rfl
 | int i=>obtain⟨t,e⟩:=(show ∃t,u=Value.int i t from r);cases e;rfl
 | str x=>obtain⟨t,e⟩:=(show ∃t,u=Value.str x t from r);cases e;rfl
 | byt b=>obtain⟨t,e⟩:=(show ∃t,u=Value.bytes b t from r);cases e;rfl
 | flt b=>obtain⟨t,e⟩:=(show ∃t,u=Value.float b t from r);cases e;rfl
 | ref a=>cases(show u=Value.ref a from r);rfl
 | ty n=>cases(show u=Value.type n from r);rfl
section
variable{P:Program}{w:World}{H H':Hp}{h h':Heap}{a C dx:Addr}{fs fs':List (Str×V)}
theorem Bp(hok:HOk P w H h)(e:H a=some (.ins C dx fs)):∃mA,ObjM h a dx C mA/\(∀f,RelO (fs.lookup f) (mA f))/\PySem.Within mA (fs.map (·.1))/\fs.length<=1000/\H dx=some (.own a):=by
 obtain⟨d,z,ne,ob,mA,n,r,q⟩:=(show ObjOk P w H h a (.ins C dx fs)from hok a _ e)
 exact⟨mA,⟨ob,n,ne⟩,r,q,z,d⟩
end
structure Cls(K:PySem.W.Frag)(C:Addr):Prop where
 pg:PySem.W.plainGet K C Str.empty=true
 hd:PySem.W.hasDictIn K C=true
 po:PySem.W.plainOver K C=true
 sa:PySem.W.findIn K (.ref C) "__setattr__" = some (some (.builtin "object.__setattr__"))
theorem Cls.get{K:PySem.W.Frag}{C:Addr}(c:Cls K C)(f:Str):PySem.W.plainGet K C f=true:=c.pg
noncomputable def NoAttr(K:PySem.W.Frag)(C:Addr)(f:Str):Prop:=PySem.W.findIn K (.ref C) f=some none
theorem NoAttr.taker{K:PySem.W.Frag}{C:Addr}{f:Str}(n:NoAttr K C f):PySem.W.takerIn K C f=some none:=by
 unfold PySem.W.takerIn
 rw[show PySem.W.findIn K (.ref C) f=some none from n]
 rfl
structure Meth(K:PySem.W.Frag)(C:Addr)(m:Str)(f:Addr):Prop where
 at_:PySem.W.findIn K (.ref C) m=some (some (.ref f))
 fn:PySem.W.isFn K (.ref f)=true
 kp:PySem.W.keepIn K (.ref f)=true
section
variable{X:Cx}{pins:List (Addr×Obj)}{σ:St}{H:Hp}{s:Shared}{a C dx:Addr}{fs:List (Str×V)}{f:Str}{v:V}{A:Around}{E:Value->Shared->Prop}
theorem Iz{b:Bool}{Q:Value->Shared->Prop}(I:Inv X pins σ H s)(e:H a=some (.ins C dx fs))(c:Cls X.K C)(n:NoAttr X.K C f)(l:fs.lookup f=some v)
  (h:∀u s',Inv X pins σ H s'->RelV v u->Q u s'):wpAny (model X.prog X.w) A (getAttr (.ref a) f b) Q E s:=by
 obtain⟨mA,O,r,_,_,_⟩:=Bp I.hok e
 obtain⟨u,hu,ru⟩:=RelO.some_of (v:=v) (o:=mA f) (by rw[<-l];exact r f)
 exact Se I.kIn O (c.get f) c.hd n hu (Jn ru) (h u _ (I.tok _) ru)
theorem Ac{m:Str}{g:Addr}{pl:Sem Bool}{Q:Value×List Value->Shared->Prop}(I:Inv X pins σ H s)(e:H a=some (.ins C dx fs))(c:Cls X.K C)(k:Meth X.K C m g)(l:fs.lookup m=none)
  (h:Q (.ref g,[.ref a]) s):wpAny (model X.prog X.w) A (getMethod (.ref a) m pl) Q E s:=by
 obtain⟨mA,O,r,_,_,_⟩:=Bp I.hok e
 have hn:mA m=none:=RelO.none_of (by rw[<-l];exact r m)
 exact Nu I.kIn O (c.get m) k.at_ k.fn hn h
theorem Iy{y:V}{u:Value}{Q:Unit->Shared->Prop}(I:Inv X pins σ H s)(e:H a=some (.ins C dx fs))(c:Cls X.K C)(n:NoAttr X.K C f)(hl:fs.length<1000)(ry:RelV y u)
  (h:∀s',Inv X pins σ (upd H a (.ins C dx (J2 f y fs))) s'->Q () s'):wpAny (model X.prog X.w) A (setAttr (.ref a) f u) Q E s:=by
 obtain⟨mA,O,r,wi,_,ho⟩:=Bp I.hok e
 have hz:(fs.map (·.1)).length<=sizeLine:=by rw[List.length_map,sizeLine_eq];omega
 refine Rr I.kIn O c.sa c.po n.taker c.hd wi hz fun h' O' sb=>h _ ?_
 have hd:∃o,h'.get? dx=some o:=let⟨o,_,_,e',_⟩:=O'.ns;⟨o,e'⟩
 refine I.write (x:=a) (e:=dx) (by rw[e];exact True.intro) (.inr ho) (fun b q hb z=>(sb.2 b hb).trans z) hd ?_
 refine⟨by rw[B5 O.ne];exact ho,?_,O.ne,O'.obj,_,O'.ns,fun g=>?_,fun g hg=>?_⟩
 ·have:=f9 f y fs;omega
 ·show RelO ((J2 f y fs).lookup g) (if g=f then some u else mA g)
  rw[l9]
  by_cases q:g=f
  ·rw[if_pos q,if_pos q];exact ry
  ·rw[if_neg q,if_neg q];exact r g
 ·by_cases q:g=f
  ·rw[q];exact(r9 f y fs).1
  ·refine(r9 f y fs).2 g (wi g fun z=>hg ?_)
   show(if g=f then some u else mA g)=none
   rw[if_neg q];exact z
theorem Inv.made(I:Inv X pins σ H s):Inv X pins σ (upd (upd H s.heap.objs.size (.own (s.heap.objs.size+1))) (s.heap.objs.size+1) (.ins C s.heap.objs.size []))
  { s with heap:=(s.heap.push PySem.W.emptyDict).push (PySem.W.instObj C s.heap.objs.size) }:=by
 have e1:(s.heap.push PySem.W.emptyDict).get? s.heap.objs.size=some PySem.W.emptyDict:=Heap.get?_push_size s.heap rfl
 have e2:((s.heap.push PySem.W.emptyDict).push (PySem.W.instObj C s.heap.objs.size)).get? (s.heap.objs.size+1)=some (PySem.W.instObj C s.heap.objs.size):=by
  have:=Heap.get?_push_size (s.heap.push PySem.W.emptyDict) (o:=PySem.W.instObj C s.heap.objs.size) rfl
  rwa [Heap.size_push]at this
 have e3:(s.heap.push PySem.W.emptyDict).Ns s.heap.objs.size (fun _=>none):=⟨PySem.W.emptyDict,#[],_,e1,rfl,(fun e he=>absurd he (by simp)),fun _=>rfl⟩
 have I1:=I.laid (a:=s.heap.objs.size) (o:=.own (s.heap.objs.size+1)) (h':=s.heap.push PySem.W.emptyDict) (t':=s.toks) (fun b u q=>Heap.get?_push_of_some _ q) (Nat.le_refl _) ⟨_,e1⟩
 refine I1.laid (a:=s.heap.objs.size+1) (o:=.ins C s.heap.objs.size []) (t':=s.toks) (fun b u q=>Heap.get?_push_of_some _ q) (Nat.le_of_eq (Heap.size_push _ _)) ?_
 have ne:s.heap.objs.size≠s.heap.objs.size+1:=Nat.ne_of_lt (Nat.lt_succ_self _)
 refine⟨by rw[B5 ne,A9],Nat.zero_le _,ne,e2,fun _=>none,(Heap.Ns1.of_empty e3).at fun o q=>Heap.get?_push_of_some _ q,fun _=>True.intro,fun y hy=>absurd rfl hy⟩
theorem Sy{prog:Program}{w:World}{env:Env}{e:Expr}{f:Str}{pos:Pos}{s:Shared}{Q:Value->Shared->Prop}(hb:attributeBase e f env (eval e env)=eval e env)
  (h:wpAny (model prog w) A (eval e env) (fun o s₁=>wpAny (model prog w) A (getAttr o f true) Q E s₁) E s):wpAny (model prog w) A (eval (.Attribute e f pos) env) Q E s :=
 Attribute_any_ h (by rw[arm_eval_Attribute,hb])
end
noncomputable def Xv(K:PySem.W.Frag)(ta:TE)(f:Str):TE:=fun σ H Q=>ta σ H fun x H1=>∃a C dx fs v,x = .ref a/\H1 a=some (.ins C dx fs)/\Cls K C/\NoAttr K C f/\fs.lookup f=some v/\Q v H1
noncomputable def Xu(K:PySem.W.Frag)(ta tv:TE)(f:Str):TS:=fun D σ H=>tv σ H fun y H1=>ta σ H1 fun x H2=>∃a C dx fs,x = .ref a/\H2 a=some (.ins C dx fs)/\Cls K C/\NoAttr K C f/\fs.length<1000 /\
 D.nx σ (upd H2 a (.ins C dx (J2 f y fs)))
section
variable{X:Cx}{o e value:Expr}{f:Str}{pos pos' tpos:Pos}{ta tv:TE}
theorem Uu(he:PE X e ta)(hb:attributeBase e f X.env (eval e X.env)=eval e X.env):PE X (.Attribute e f pos) (Xv X.K ta f):=by
 intro pins s σ H Q I h
 refine Sy hb (thn (he pins s σ H _ I h) fun u s1 ⟨x,H1,I1,rx,a,C,dx,fs,v,ex,ea,c,n,l,q⟩=>?_)
 subst ex
 obtain rfl:u=Value.ref a:=rx
 exact Iz I1 ea c n l fun u' s2 I2 ru=>⟨v,H1,I2,ru,q⟩
theorem Uj(ha:PE X o ta)(hv:PE X value tv)(hs:swapsWith value (some (.Attribute o f pos')) pos.line X.env=pure false):PS X (.Assign [.Attribute o f pos'] value pos) (Xu X.K ta tv f):=by
 intro pins s σ H D I h
 refine plainObj_wpAny_Assign_Attribute (thn (hv pins s σ H _ I h) fun u s1 ⟨y,H1,I1,ry,q⟩=>thn (ha pins s1 σ H1 _ I1 q) fun ov s2 ⟨x,H2,I2,rx,a,C,dx,fs,ex,ea,c,n,l,q2⟩=>?_) hs
 subst ex
 obtain rfl:ov=Value.ref a:=rx
 exact Iy I2 ea c n l ry fun s3 I3=>⟨σ,_,I3,q2⟩
end
section
variable{X:Cx}{pins:List (Addr×Obj)}{σ:St}{H:Hp}{s:Shared}{A:Around}{E:Value->Shared->Prop}{Q:Value->Shared->Prop}{c:Value}{b:Bool}
inductive TyOf(K:PySem.W.Frag)(H:Hp):V->Value->Prop where
 | non:TyOf K H .non (.type "NoneType")
 | bl (x:Bool):TyOf K H (.bl x) (.type "bool")
 | int (i:Int):TyOf K H (.int i) (.type "int")
 | str (x:Str):TyOf K H (.str x) (.type "str")
 | flt (x:UInt64):TyOf K H (.flt x) (.type "float")
 | lst {a:Addr} {xs:List V} (e:H a=some (.lst xs)):TyOf K H (.ref a) (.type "list")
 | frz {a:Addr} {o:Obj} {xs:List V} (e:H a=some (.frz o (.lst xs))):TyOf K H (.ref a) (.type "list")
 | tup {a:Addr} {xs:List V} (e:H a=some (.tup xs)):TyOf K H (.ref a) (.type "tuple")
 | dK {a:Addr} {kvs:List (Key×V)} (e:H a=some (.dK kvs)):TyOf K H (.ref a) (.type "dict")
 | dT {a:Addr} {kvs:List (List Key×V)} (e:H a=some (.dT kvs)):TyOf K H (.ref a) (.type "dict")
 | ins {a C dx:Addr} {fs:List (Str×V)} (e:H a=some (.ins C dx fs)) (cl:Cls K C) (ha:PySem.W.findIn K (.ref C) "__class__" = some (some (.builtin "object.__class__")))
   (hn:PySem.W.specialIn K (.builtin "object.__class__") "__get__" = some (some (.builtin "getset_descriptor.__get__"))) (htk:PySem.W.takesIn K (.builtin "object.__class__")=some true)
   (hm:PySem.W.mroIn K C (.type "object")=some true):TyOf K H (.ref a) (.ref C)
theorem Mh{x:V}{u t:Value}(I:Inv X pins σ H s)(rx:RelV x u)(ty:TyOf X.K H x t)(e:PySem.W.kitOne X.K t c=some b)(h:∀tk,Q (.bool b) { s with toks:=tk }) :
  wpAny (model X.prog X.w) A (call (.builtin "isinstance") [u,c]) Q E s:=by
 cases ty with
 | non=>cases(show u=Value.none from rx);exact PySem.W.kia_one PySem.W.kitx_none I.kIn True.intro e (fun z=>nomatch z) h
 | bl y=>cases(show u=Value.bool y from rx);exact PySem.W.kia_one PySem.W.kitx_bool I.kIn True.intro e (fun z=>nomatch z) h
 | int i=>obtain⟨t,q⟩:=(show ∃t,u=Value.int i t from rx);cases q;exact PySem.W.kia_one PySem.W.kitx_int I.kIn True.intro e (fun z=>nomatch z) h
 | str y=>obtain⟨t,q⟩:=(show ∃t,u=Value.str y t from rx);cases q;exact PySem.W.kia_one PySem.W.kitx_str I.kIn True.intro e (fun z=>nomatch z) h
 | flt y=>obtain⟨t,q⟩:=(show ∃t,u=Value.float y t from rx);cases q;exact PySem.W.kia_one PySem.W.kitx_float I.kIn True.intro e (fun z=>nomatch z) h
 | @lst a xs ea =>
  cases(show u=Value.ref a from rx)
  obtain⟨_,_,n,_,h1⟩:=(show ObjOk X.prog X.w H s.heap a (.lst xs)from I.hok a _ ea)
  exact PySem.W.kia_one PySem.W.kitx_list I.kIn ⟨_,h1,rfl⟩ e (fun z=>nomatch z) h
 | @frz a ob xs ea =>
  cases(show u=Value.ref a from rx)
  obtain⟨_,_,_,n,_,h1⟩:=(show ObjOk X.prog X.w H s.heap a (.frz ob (.lst xs))from I.hok a _ ea)
  exact PySem.W.kia_one PySem.W.kitx_list I.kIn ⟨_,h1,rfl⟩ e (fun z=>nomatch z) h
 | @tup a xs ea =>
  cases(show u=Value.ref a from rx)
  obtain⟨_,_,_,p⟩:=(show ObjOk X.prog X.w H s.heap a (.tup xs)from I.hok a _ ea)
  obtain⟨o,h1,h2,_⟩:=p
  exact PySem.W.kia_one PySem.W.kitx_tuple I.kIn ⟨o,h1,h2⟩ e (fun z=>nomatch z) h
 | @dK a kvs ea =>
  cases(show u=Value.ref a from rx)
  obtain⟨_,_,vs,_,p⟩:=(show ObjOk X.prog X.w H s.heap a (.dK kvs)from I.hok a _ ea)
  obtain⟨o,es,ep,h1,h2,_⟩:=p
  exact PySem.W.kia_one PySem.W.kitx_dict I.kIn ⟨o,h1,h2.1⟩ e (fun z=>nomatch z) h
 | @dT a kvs ea =>
  cases(show u=Value.ref a from rx)
  obtain⟨_,_,xs,_,o,es,ep,h1,h2,_⟩:=(show ObjOk X.prog X.w H s.heap a (.dT kvs)from I.hok a _ ea)
  exact PySem.W.kia_one PySem.W.kitx_dict I.kIn ⟨o,h1,h2.1⟩ e (fun z=>nomatch z) h
 | @ins a C dx fs ea cl ha hn htk hm =>
  cases(show u=Value.ref a from rx)
  obtain⟨mA,O,_⟩:=Bp I.hok ea
  obtain⟨od,J,_⟩:=O.look
  exact PySem.W.kia_one (PySem.W.kitx_own (cl.get _) cl.hd ha hn htk hm) I.kIn J e (fun z=>nomatch z) h
end
structure Room(k:Nat)(A:Around):Prop where
 hd:A.handled=none
 dp:A.depth+3*k+5<recursionLimit
 un:A.units+16*k+200<cLine
theorem Room.mono{j k:Nat}{A:Around}(r:Room k A)(h:j<=k):Room j A:=⟨r.hd,by have:=r.dp;omega,by have:=r.un;omega⟩
theorem Room.deeper{k:Nat}{A:Around}(r:Room (k+1) A)(env:Env):Room k (A.deeper env) :=
 ⟨r.hd,by have:=r.dp;show A.depth+1+3*k+5<_;omega,by have:=r.un;show A.units+3+16*k+200<_;omega⟩
theorem Ix{A:Around}{C:Addr}{us:List Value}{kw:List (Str×Value)}:(A.under (.builtin "type.__call__" ⟨.ref C::us,kw⟩)).depth=A.depth+1:=by
 first | rfl | simp[Around.under,Code.weight,Code.isCreation,Code.isGuard,Code.isCaller,Code.frames,Code.isFrame,guardIds]
theorem Ig{A:Around}{C:Addr}{us:List Value}{kw:List (Str×Value)}:(A.under (.builtin "type.__call__" ⟨.ref C::us,kw⟩)).units=A.units+1:=by
 first | rfl | simp[Around.under,Code.cUnits,Code.frames,Code.isFrame]
theorem Room.make{k:Nat}{A:Around}(r:Room (k+1) A)(C:Addr)(us:List Value)(kw:List (Str×Value)):Room k (A.under (.builtin "type.__call__" ⟨.ref C::us,kw⟩)) :=
 ⟨r.hd,by have:=r.dp;rw[Ix];omega,by have:=r.un;rw[Ig];omega⟩
theorem Room.depth{k:Nat}{A:Around}(r:Room k A):A.depth<recursionLimit:=by have:=r.dp;omega
theorem Room.units{k:Nat}{A:Around}(r:Room k A):A.units+64<cLine:=by have:=r.un;omega
noncomputable def Sr:TA:=fun _ H Q=>Q [] H
noncomputable def Mn(ta:TE)(tr:TA):TA:=fun σ H Q=>ta σ H fun x H1=>tr σ H1 fun xs H2=>Q (x::xs) H2
section
variable{X:Cx}{e:Expr}{es:List Expr}{te:TE}{t:TA}{pos:Pos}
theorem B1:PA X [] Sr:=fun _ _ _ _ H Q I h=>Calls.spliced_nil ⟨[],H,I,.nil,h⟩
theorem A8(ha:PE X e te)(hr:PA X es t)(hs:starEach (e::es) X.env =(false,eval e X.env)::starEach es X.env:=by rfl):PA X (e::es) (Mn te t):=by
 intro pos pins s σ H Q I h
 rw[hs]
 show wpAny _ _ (spliced ((false,eval e X.env)::backTo pos (starEach es X.env))) _ _ s
 refine Calls.spliced_cons (thn (ha pins s σ H _ I h) fun u s1 ⟨x,H1,I1,r1,q1⟩=>?_)
 exact thn (hr pos pins s1 σ H1 _ I1 q1) fun us s2 ⟨xs,H2,I2,r2,q2⟩=>⟨x::xs,H2,I2,.cons r1 r2,q2⟩
noncomputable def Yd(t:TA):TE:=fun σ H Q=>t σ H fun xs H1=>xs.length<=sizeLine/\∀p,H1 p=none->Q (.ref p) (upd H1 p (.tup xs))
noncomputable def Yg(t:TA):TE:=fun σ H Q=>t σ H fun xs H1=>xs.length<=sizeLine/\∀p,H1 p=none->Q (.ref p) (upd H1 p (.lst xs))
theorem U0{x1}(h:PA X es t):PE X (.Tuple es x1 pos) (Yd t):=by
 intro pins s σ H Q I hq
 refine wpAny_Tuple_spliced (thn (h pos pins s σ H _ I hq) fun us s1 ⟨xs,H1,I1,r,z,q⟩=>⟨by rw[<-r.length];exact z,?_⟩)
 have hf:H1 s1.heap.objs.size=none:=I1.hok.fresh (Nat.le_refl _)
 refine⟨.ref s1.heap.objs.size,upd H1 s1.heap.objs.size (.tup xs),I1.laid (t':=s1.toks) (fun b u e=>Heap.get?_push_of_some _ e) (Nat.le_refl _) ?_,rfl,q _ hf⟩
 exact⟨z,us,r,⟨_,Heap.get?_push_size _ rfl,rfl,_,rfl⟩⟩
theorem M0(h:PA X es t):PE X (.List es pos) (Yg t):=by
 intro pins s σ H Q I hq
 refine wpAny_List_spliced (thn (h pos pins s σ H _ I hq) fun us s1 ⟨xs,H1,I1,r,z,q⟩=>⟨by rw[<-r.length];exact z,?_⟩)
 have hf:H1 s1.heap.objs.size=none:=I1.hok.fresh (Nat.le_refl _)
 refine⟨.ref s1.heap.objs.size,upd H1 s1.heap.objs.size (.lst xs),I1.laid (t':=s1.toks) (fun b u e=>Heap.get?_push_of_some _ e) (Nat.le_refl _) ?_,rfl,q _ hf⟩
 exact⟨z,us,0,r,Heap.get?_push_size _ rfl⟩
end
noncomputable abbrev Sp:=List V->Hp->VK->XK->Prop
noncomputable abbrev CXT:=List Env->Hp->Shared->XK->Value->Shared->Prop
structure Env0(P:Program)(w:World)(K:PySem.W.Frag)(mg:Str->Option Value)(base:Heap)(A:Around)(outer:List Env)(s:Shared)(H:Hp):Prop where
 frames:A.frames=some outer
 mod:Mod K mg base
 bs:∀b o,base.get? b=some o->s.heap.get? b=some o/\H b=none
 bsz:base.objs.size<=s.heap.objs.size
 funs:s.heap.FunFrames base outer
 frf:∀b∈frs outer,H b=none
 hok:HOk P w H s.heap
 bare:AllBare s.gens
noncomputable def CE(outer:List Env)(P:Program)(w:World)(H:Hp)(s:Shared)(Q:VK)(u:Value)(s':Shared):Prop :=
 ∃v H',s'.os=s.os/\AllBare s'.gens/\Un (frs outer) [] H H' s.heap s'.heap/\HOk P w H' s'.heap/\RelV v u/\Q v H'
noncomputable def CR(CX:CXT)(outer:List Env)(P:Program)(w:World)(H:Hp)(s:Shared)(Q:VK)(E:XK)(r:Result)(s':Shared):Prop :=
 match r with
 | .ok (.ret u)=>CE outer P w H s Q u s'
 | .ok _=>False
 | .error e=>CX outer H s E e s'
structure FnOk(P:Program)(w:World)(K:PySem.W.Frag)(mg:Str->Option Value)(base:Heap)(CX:CXT)(k:Nat)(f:Addr)(fd:FuncData)(ps:List Str)(sp:Sp):Prop where
 len:∀vs H Q E,sp vs H Q E->vs.length=ps.length
 run:∀(A:Around) (outer:List Env) (s:Shared) (H:Hp) (args:Args) (us:List Value) (vs:List V) (Q:VK) (E:XK),Room k A->Env0 P w K mg base A outer s H->BindsTo s fd args (ps.zip us)->Vals vs us->sp vs H Q E ->
  codeAny (model P w) A (.call (.ref f) args) (CR CX outer P w H s Q E) s
theorem FnOk.mono{P:Program}{w:World}{K:PySem.W.Frag}{mg:Str->Option Value}{base:Heap}{CX:CXT}{j k:Nat}{f:Addr}{fd:FuncData}{ps:List Str}{sp:Sp}(F:FnOk P w K mg base CX j f fd ps sp)(h:j<=k) :
  FnOk P w K mg base CX k f fd ps sp:=⟨F.len,fun A outer s H args us vs Q E hr=>F.run A outer s H args us vs Q E (hr.mono h)⟩
theorem Env0.make{P:Program}{w:World}{K:PySem.W.Frag}{mg:Str->Option Value}{base:Heap}{A:Around}{outer:List Env}{s:Shared}{H:Hp}(e:Env0 P w K mg base A outer s H)(C:Addr)(us:List Value)(kw:List (Str×Value)) :
  Env0 P w K mg base (A.under (.builtin "type.__call__" ⟨.ref C::us,kw⟩)) outer s H:=⟨by first | exact e.frames | (simpa [Around.under,Code.envs,Code.isFrame,pushEnvs] using e.frames),e.mod,e.bs,e.bsz,e.funs,e.frf,e.hok,e.bare⟩
section
variable{X:Cx}{pins:List (Addr×Obj)}{σ:St}{H:Hp}{s s':Shared}
theorem Inv.env0(I:Inv X pins σ H s):Env0 X.prog X.w X.K X.mg X.base X.A X.stack s H :=
 ⟨I.ok.frames,I.ok.mod,I.bs,Nat.le_trans I.ok.bsz I.sz,I.stack,I.stkFree,I.hok,I.bare⟩
theorem Inv.after{Q:VK}{u:Value}(I:Inv X pins σ H s)(h:CE X.stack X.prog X.w H s Q u s'):EP X pins σ Q u s':=by
 obtain⟨v,H',os,bare,un,hok,r,q⟩:=h
 obtain⟨hh,g,d,t,os'⟩:=s'
 obtain rfl:os'=s.os:=os
 exact⟨v,H',I.call (h':=hh) (g':=g) (d':=d) (t':=t) (ch:=[]) un hok bare (fun b z=>absurd z (by simp)),r,q⟩
end
noncomputable def Jx(sp:Sp)(dvs:List V)(E:XK)(t:TA):TE:=fun σ H Q=>t σ H fun vs H1=>sp (vs++dvs) H1 Q E
noncomputable def Ui(C:Addr)(m:Str)(sp:Sp)(dvs:List V)(E:XK)(ta:TE)(t:TA):TE:=fun σ H Q=>ta σ H fun x H1=>∃a dx fs,x = .ref a/\H1 a=some (.ins C dx fs)/\fs.lookup m=none /\
 t σ H1 fun vs H2=>sp (x ::(vs++dvs)) H2 Q E
noncomputable def Xg(C:Addr)(sp:Sp)(dvs:List V)(E:XK)(t:TA):TE:=fun σ H Q=>t σ H fun vs H1=>∀x dx,H1 x=none->H1 dx=none->dx≠x ->
 sp (.ref x ::(vs++dvs)) (upd (upd H1 dx (.own x)) x (.ins C dx [])) (fun v H2=>v = .non/\Q (.ref x) H2) E
noncomputable def Binds(K:PySem.W.Frag)(fd:FuncData)(ps:List Str)(ds:List Value):Prop :=
 ∀(s:Shared) (us:List Value),K.In s.heap->(us++ds).length=ps.length->BindsTo s fd ⟨us,[]⟩ (ps.zip (us++ds))
theorem Binds.all{K:PySem.W.Frag}{fd:FuncData}{ps:List Str}(h:∀us:List Value,us.length=ps.length->bindArgs fd ⟨us,[]⟩=pure (ps.zip us)):Binds K fd ps []:=fun s us _ hl=>by
 rw[List.append_nil]at hl⊢
 exact .of_eq (h us hl)
noncomputable def U4(CX:CXT)(X:Cx)(E:XK):Prop:=∀(pins:List (Addr×Obj)) (σ:St) (H:Hp) (s:Shared) (e:Value) (s':Shared),Inv X pins σ H s->CX X.stack H s E e s'->X.xe e s'
section
variable{X:Cx}{CX:CXT}{k:Nat}{f C:Addr}{fd:FuncData}{ps:List Str}{sp:Sp}{dvs:List V}{ds:List Value}{E:XK}{x m:Str}{p pos apos:Pos}{e o:Expr}{es:List Expr}{ta:TE}{t:TA}
theorem Gc{pins:List (Addr×Obj)}{σ:St}{H:Hp}{s:Shared}{Q:VK}{us:List Value}{vs:List V}(F:FnOk X.prog X.w X.K X.mg X.base CX k f fd ps sp)(hr:Room k X.A)(hb:Binds X.K fd ps ds)(hd:Vals dvs ds)(hx:U4 CX X E)
  (I:Inv X pins σ H s) (r:Vals vs us) (h:sp (vs++dvs) H Q E):wpAny (model X.prog X.w) X.A (call (.ref f) us) (EP X pins σ Q) X.xe s:=by
 have r2:Vals (vs++dvs) (us++ds):=r.append hd
 have hl:(us++ds).length=ps.length:=by rw[<-r2.length];exact F.len _ _ _ _ h
 refine wpAny_call (codeAny_mono (F.run X.A X.stack s H ⟨us,[]⟩ (us++ds) (vs++dvs) Q E hr I.env0 (hb s us I.kIn hl) r2 h) fun r s' hq=>?_)
 cases r with
 | error e=>exact hx pins σ H s e s' I hq
 | ok fl =>
  cases fl with
  | ret u=>exact I.after hq
  | next=>exact False.elim hq
  | brk=>exact False.elim hq
  | cont=>exact False.elim hq
theorem Kf(F:FnOk X.prog X.w X.K X.mg X.base CX k f fd ps sp)(hr:Room k X.A)(hg:Gl X x)(hm:X.mg x=some (.ref f))(hk:PySem.W.keepIn X.K (.ref f)=true)(hb:Binds X.K fd ps ds)(hd:Vals dvs ds)(hx:U4 CX X E)
  (ha:PA X (e::es) t) (hdb:(x ==("__debug__":Str))=false:=by decide) (he:starEach (e::es) X.env =(false,eval e X.env)::starEach es X.env:=by rfl) (hpl:(backTo pos (starEach es X.env)).any (·.1)=false:=by rfl) :
  PE X (.Call (.Name x p) (e::es) [] pos) (Jx sp dvs E t):=by
 intro pins s σ H Q I h
 refine wpAny_Call_Name_kw (V9 I hg hm ?_ hdb)
 refine PySem.W.callWith_K (h₀:=X.base) I.ok.mod.kin hk (thn (ha pos pins s σ H _ I h) fun us s1 ⟨vs,H1,I1,r,q⟩=>⟨I1.kIn,?_⟩) he hpl
 exact Gc F hr hb hd hx I1 r q
theorem E9{pl:Sem Bool}(he:PE X o ta)(c:Cls X.K C)(hm:Meth X.K C m f)(F:FnOk X.prog X.w X.K X.mg X.base CX k f fd ps sp)(hr:Room k X.A)(hb:Binds X.K fd ps ds)(hd:Vals dvs ds)(hx:U4 CX X E)(ha:PA X (e::es) t)
  (hst:starEach (e::es) X.env =(false,eval e X.env)::starEach es X.env:=by rfl) (hpl:(backTo pos (starEach es X.env)).any (·.1)=false:=by rfl)
  (ht:eval (.Call (.Attribute o m apos) (e::es) [] pos) X.env =(do
   let ov <-eval o X.env
   standAt apos.atName
   let(f,first) <-holding [ov] (getMethod ov m pl)
   callWith pos f first (backTo pos (starEach (e::es) X.env)) (backToKw pos (keywordEach [] X.env))):=by rfl) :
  PE X (.Call (.Attribute o m apos) (e::es) [] pos) (Ui C m sp dvs E ta t):=by
 intro pins s σ H Q I h
 refine PySem.W.methodCall_KW (pl:=pl) (thn (he pins s σ H _ I h) fun u s1 ⟨x,H1,I1,rx,a,dx,fs,ex,ea,l,q⟩=>?_) ht
 subst ex
 obtain rfl:u=Value.ref a:=rx
 refine Ac I1 ea c hm l ?_
 refine PySem.W.callWith_K (first:=[.ref a]) (h₀:=X.base) I.ok.mod.kin hm.kp (thn (ha pos pins s1 σ H1 _ I1 q) fun us s2 ⟨vs,H2,I2,r,q2⟩=>⟨I2.kIn,?_⟩) hst hpl
 exact Gc (us:=.ref a::us) (vs:=.ref a::vs) F hr hb hd hx I2 (.cons rfl r) q2
theorem Bg{pl:Sem Bool}(he:PE X o ta)(c:Cls X.K C)(hm:Meth X.K C m f)(F:FnOk X.prog X.w X.K X.mg X.base CX k f fd ps sp)(hr:Room k X.A)(hb:Binds X.K fd ps ds)(hd:Vals dvs ds)(hx:U4 CX X E)
  (ht:eval (.Call (.Attribute o m apos) [] [] pos) X.env =(do
   let ov <-eval o X.env
   standAt apos.atName
   let(f,first) <-holding [ov] (getMethod ov m pl)
   callWith pos f first (backTo pos (starEach [] X.env)) (backToKw pos (keywordEach [] X.env))):=by rfl) :
  PE X (.Call (.Attribute o m apos) [] [] pos) (Ui C m sp dvs E ta Sr):=by
 intro pins s σ H Q I h
 refine PySem.W.methodCall_KW (pl:=pl) (thn (he pins s σ H _ I h) fun u s1 ⟨x,H1,I1,rx,a,dx,fs,ex,ea,l,q⟩=>?_) ht
 subst ex
 obtain rfl:u=Value.ref a:=rx
 refine Ac I1 ea c hm l ?_
 exact PySem.W.callWith_K0 (first:=[.ref a]) I1.kIn hm.kp (Gc (us:=[.ref a]) (vs:=[.ref a]) F hr hb hd hx I1 (.cons rfl .nil) q)
structure Mk(K:PySem.W.Frag)(C f:Addr):Prop where
 makes:PySem.W.makesIn K C=true
 init:PySem.W.findIn K (.ref C) "__init__" = some (some (.ref f))
 fn:PySem.W.isFn K (.ref f)=true
 kp:PySem.W.keepIn K (.ref C)=true
theorem Pg{pins:List (Addr×Obj)}{σ:St}{H:Hp}{s:Shared}{Q:VK}{us:List Value}{vs:List V}(M:Mk X.K C f)(F:FnOk X.prog X.w X.K X.mg X.base CX k f fd ps sp)(hr:Room (k+1) X.A)(hb:Binds X.K fd ps ds)(hd:Vals dvs ds)
  (hx:U4 CX X E) (I:Inv X pins σ H s) (r:Vals vs us)
  (h:∀x dx,H x=none->H dx=none->dx≠x->sp (.ref x ::(vs++dvs)) (upd (upd H dx (.own x)) x (.ins C dx [])) (fun v H2=>v = .non/\Q (.ref x) H2) E) :
  wpAny (model X.prog X.w) X.A (call (.ref C) us) (EP X pins σ Q) X.xe s:=by
 have hq:=h (s.heap.objs.size+1) s.heap.objs.size (I.hok.fresh (Nat.le_succ _)) (I.hok.fresh (Nat.le_refl _)) (Nat.ne_of_lt (Nat.lt_succ_self _))
 have I2:=Inv.made (C:=C) I
 have r2:Vals (V.ref (s.heap.objs.size+1) ::(vs++dvs)) (Value.ref (s.heap.objs.size+1) ::(us++ds)):=.cons rfl (r.append hd)
 have hl:(Value.ref (s.heap.objs.size+1)::us++ds).length=ps.length:=by
  have e:=r2.length
  rw[F.len _ _ _ _ hq]at e
  exact e.symm
 refine wpAny_call (Om (f:=f) I.kIn M.makes M.init (beq_iff_eq.mp M.fn) (codeAny_mono (F.run _ X.stack _ _ ⟨Value.ref (s.heap.objs.size+1)::us,[]⟩ (Value.ref (s.heap.objs.size+1) ::(us++ds)) _ _ E (hr.make C us [])
  (I2.env0.make C us []) (hb _ (Value.ref (s.heap.objs.size+1)::us) I2.kIn hl) r2 hq) fun r s' hq'=>?_))
 cases r with
 | error e=>exact hx pins σ _ _ e s' I2 hq'
 | ok fl =>
  cases fl with
  | ret u =>
   obtain⟨v,H',I3,rv,ev,q3⟩:=I2.after hq'
   subst ev
   exact⟨rv,⟨V.ref (s.heap.objs.size+1),H',I3,rfl,q3⟩⟩
  | next=>exact False.elim hq'
  | brk=>exact False.elim hq'
  | cont=>exact False.elim hq'
theorem Lw(M:Mk X.K C f)(F:FnOk X.prog X.w X.K X.mg X.base CX k f fd ps sp)(hr:Room (k+1) X.A)(hg:Gl X x)(hm:X.mg x=some (.ref C))(hb:Binds X.K fd ps ds)(hd:Vals dvs ds)(hx:U4 CX X E)
  (ha:PA X (e::es) t) (hdb:(x ==("__debug__":Str))=false:=by decide) (he:starEach (e::es) X.env =(false,eval e X.env)::starEach es X.env:=by rfl) (hpl:(backTo pos (starEach es X.env)).any (·.1)=false:=by rfl) :
  PE X (.Call (.Name x p) (e::es) [] pos) (Xg C sp dvs E t):=by
 intro pins s σ H Q I h
 refine wpAny_Call_Name_kw (V9 I hg hm ?_ hdb)
 refine PySem.W.callWith_K (h₀:=X.base) I.ok.mod.kin M.kp (thn (ha pos pins s σ H _ I h) fun us s1 ⟨vs,H1,I1,r,q⟩=>⟨I1.kIn,?_⟩) he hpl
 exact Pg M F hr hb hd hx I1 r q
end
structure FnScope(N P:List Str)(sc:Scope):Prop where
 kind:sc.kind = .function
 co:sc.isCoroutine=false
 gen:sc.isGenerator=false
 nd:N.Nodup
 pre:N.take P.length=P
 par:∀x∈P,sc.names.lookup x=some .local\/sc.names.lookup x=some .cell
 nofree:∀y∈sc.names,y.2≠ .free
theorem Db{kindOf:Str->Option NameKind}{x:Str}:∀{binds:List (Str×Value)} {m:Str->Option Value},(∀v,(x,v)∉binds)->bindL kindOf binds m x=m x
 | [],_,_=>rfl
 | (n,v)::r,m,h=>by
  unfold bindL
  rw[Db fun w hw=>h w (List.mem_cons_of_mem _ hw)]
  split
  ·have:x≠n:=by rintro rfl;exact h v List.mem_cons_self
   simp[this]
  ·rfl
theorem Dh{kindOf:Str->Option NameKind}{x:Str}:∀{binds:List (Str×Value)} {m:Str->Option Value},(∀v,(x,v)∉binds)->bindC kindOf binds m x=m x
 | [],_,_=>rfl
 | (n,v)::r,m,h=>by
  unfold bindC
  rw[Dh fun w hw=>h w (List.mem_cons_of_mem _ hw)]
  split
  ·rfl
  ·have:x≠n:=by rintro rfl;exact h v List.mem_cons_self
   simp[this]
theorem Cj{kindOf:Str->Option NameKind}{x:Str}{v:Value}:∀{P:List Str} {vs:List Value} {i:Nat} {m:Str->Option Value},P.Nodup->P[i]?=some x->vs[i]?=some v->kindOf x=some .local ->
  bindL kindOf (P.zip vs) m x=some v
 | [],_,_,_,_,h,_,_=>by simp at h
 | _::_,[],_,_,_,_,h,_=>by simp at h
 | p::P,w::vs,0,m,nd,h1,h2,hk=>by
  simp at h1 h2;subst h1;subst h2
  show bindL kindOf ((p,w)::P.zip vs) m p=_
  unfold bindL
  rw[Db fun v hv=>(List.nodup_cons.mp nd).1 (List.of_mem_zip hv).1,if_pos hk]
  simp
 | p::P,w::vs,i+1,m,nd,h1,h2,hk=>by
  show bindL kindOf ((p,w)::P.zip vs) m x=_
  unfold bindL
  exact Cj (i:=i) (List.nodup_cons.mp nd).2 (by simpa using h1) (by simpa using h2) hk
theorem Cf{kindOf:Str->Option NameKind}{x:Str}{v:Value}:∀{P:List Str} {vs:List Value} {i:Nat} {m:Str->Option Value},P.Nodup->P[i]?=some x->vs[i]?=some v->kindOf x≠some .local ->
  bindC kindOf (P.zip vs) m x=some v
 | [],_,_,_,_,h,_,_=>by simp at h
 | _::_,[],_,_,_,_,h,_=>by simp at h
 | p::P,w::vs,0,m,nd,h1,h2,hk=>by
  simp at h1 h2;subst h1;subst h2
  show bindC kindOf ((p,w)::P.zip vs) m p=_
  unfold bindC
  rw[Dh fun v hv=>(List.nodup_cons.mp nd).1 (List.of_mem_zip hv).1,if_neg hk]
  simp
 | p::P,w::vs,i+1,m,nd,h1,h2,hk=>by
  show bindC kindOf ((p,w)::P.zip vs) m x=_
  unfold bindC
  exact Cf (i:=i) (List.nodup_cons.mp nd).2 (by simpa using h1) (by simpa using h2) hk
noncomputable def Bt(N:List Str)(vs:List V):St:=vs.map some++List.replicate (N.length-vs.length) none
noncomputable def Pj(CX:CXT)(P:Program)(w:World)(K:PySem.W.Frag)(mg:Str->Option Value)(base:Heap)(N:List Str)(qual:Str)(scope:Scope)(f:Addr)(cd:Value)(A:Around)(outer:List Env)(s:Shared)(H:Hp)(E:XK):Cx where
 prog:=P
 w:=w
 K:=K
 mg:=mg
 base:=base
 A:=A.deeper (envOfC qual scope s.heap.objs.size f cd)
 N:=N
 s₀:=s
 H₀:=H
 env:=envOfC qual scope s.heap.objs.size f cd
 outer:=outer
 stack:=envOfC qual scope s.heap.objs.size f cd::outer
 ex:=[]
 calm:=true
 fn:=fun _=>true
 pn:=[]
 xe:=fun e s'=>wpAny (model P w) (A.deeper (envOfC qual scope s.heap.objs.size f cd)) (leaving (envOfC qual scope s.heap.objs.size f cd) e) (fun _ s''=>CX outer H s E e s'') (fun e' s''=>CX outer H s E e' s'') s'
theorem Hh{sc:Scope}{n:Nat}{x:Str}(h:sc.names.lookup x=some .cell):∃c,(cellsFrom n sc.names []).lookup x=some c:=by
 have q:=PySem.W.cellsFrom_some sc.names n [] (.inl h)
 exact Option.isSome_iff_exists.mp q
theorem Kk{CX:CXT}{P:Program}{w:World}{K:PySem.W.Frag}{mg:Str->Option Value}{base:Heap}{N ps:List Str}{qual:Str}{scope:Scope}{f:Addr}{cd:Value}{A:Around}{outer:List Env}{s s1:Shared}{H:Hp}{E:XK}{us:List Value}{vs:List V}
  (S:FnScope N ps scope) (hd:A.handled=none) (e0:Env0 P w K mg base A outer s H) (hl:vs.length=ps.length) (r:Vals vs us)
  (x:InCallC s s.heap.objs.size (bindL (envOfC qual scope s.heap.objs.size f cd).kindOf (ps.zip us) fun _=>none) (cellsFrom (s.heap.objs.size+1) scope.names []) (bindC (envOfC qual scope s.heap.objs.size f cd).kindOf (ps.zip us) fun _=>none) s1) :
  Inv (Pj CX P w K mg base N qual scope f cd A outer s H E) [] (Bt N vs) H s1:=by
 have hpl:ps.length<=N.length:=by have:=congrArg List.length S.pre;rw[List.length_take]at this;omega
 obtain⟨h1,tk,rfl,hk⟩:=x.done
 have noA:∀b:Addr,b∉(Pj CX P w K mg base N qual scope f cd A outer s H E).ex:=fun b z=>absurd (show b∈([]:List Addr)from z) (by simp)
 refine⟨⟨e0.mod,S.kind,rfl,rfl,Nat.le_refl _,fun y z c h1 h2=>?_,fun y hy=>?_,fun y c _ h=>?_,fun _=>hd,Around.frames_deeper e0.frames,.inr ⟨rfl,rfl⟩,fun b z=>absurd z (noA b),e0.bs,e0.bsz,fun b _ _=>noA b,fun b z=>absurd z (noA b),e0.funs,e0.frf⟩,
  rfl,e0.bare,Un.kept hk,⟨_,x.toInCall.ns,fun i y v h1 h2 h3=>?_⟩,fun y c h=>⟨_,x.cell y c h⟩,e0.hok.fresh (Nat.le_refl _),fun y c h=>?_,fun p hp=>absurd (show p∈([]:List (Addr×Obj))from hp) (by simp),e0.hok.kept hk,?_⟩
 ·exact name_of_addr x.apart (PySem.mem_of_lookup h1) (PySem.mem_of_lookup h2)
 ·have hy:scope.names.lookup y=some .cell\/scope.names.lookup y=some .free:=hy
  rcases hy with hy | hy
  ·exact Hh hy
  ·exact absurd rfl (S.nofree _ (PySem.mem_of_lookup hy))
 ·exact Nat.le_of_lt (x.above y c (PySem.mem_of_lookup h))
 ·have hi:i<vs.length:=by
   unfold Bt at h2
   by_cases hi:i<vs.length
   ·exact hi
   ·rw[List.getElem?_append_right (by simpa using hi)]at h2
    rw[List.getElem?_replicate]at h2
    split at h2<;>cases h2
  have ha:vs[i]?=some v:=by
   unfold Bt at h2
   rw[List.getElem?_append_left (by simpa using hi),List.getElem?_map]at h2
   cases e:vs[i]? with
   | none=>rw[e]at h2;cases h2
   | some a=>rw[e]at h2;cases h2;rfl
  obtain⟨u,hu,rv⟩:=r.get ha
  have hp:ps[i]?=some y:=by
   rw[<-S.pre,List.getElem?_take_of_lt (by omega)];exact h1
  have ndP:ps.Nodup:=by rw[<-S.pre];exact S.nd.sublist (List.take_sublist _ _)
  refine⟨u,rv,?_⟩
  rcases S.par y (List.mem_of_getElem? hp)with k | k
  ·exact .inl ⟨k,Cj ndP hp hu k⟩
  ·obtain⟨c,e⟩:=Hh (n:=s.heap.objs.size+1) k
   refine .inr ⟨.inl k,c,e,?_⟩
   have q:=x.cell y c e
   rw[Cf ndP hp hu (by show scope.names.lookup y≠_;rw[k];decide)]at q
   exact q
 ·exact e0.hok.fresh (Nat.le_of_lt (x.above y c (PySem.mem_of_lookup h)))
 ·unfold Bt
  show _=N.length
  rw[List.length_append,List.length_map,List.length_replicate]
  omega
theorem Tp{CX:CXT}{P:Program}{w:World}{K:PySem.W.Frag}{mg:Str->Option Value}{base:Heap}{k:Nat}{f:Addr}{name qual:Str}{params:Arguments}{body:List Stmt}{scope:Scope}{dV kV doc pm cdv ct oc:Value}{an od:Option Addr}
  {osl:Array (Option Value)} {N ps:List Str} {sp:Sp} (lk:K.lookup f=some ⟨oc,od,.func (PySem.W.fnOf name qual params body scope dV kV doc pm an cdv ct),osl⟩) (hcd:PySem.W.codeIn K cdv qual=true) (S:FnScope N ps scope)
  (len:∀vs H Q E,sp vs H Q E->vs.length=ps.length)
  (hbody:∀(A:Around) (outer:List Env) (s:Shared) (H:Hp) (vs:List V) (Q:VK) (E:XK),Room k (A.deeper (envOfC qual scope s.heap.objs.size f cdv))->sp vs H Q E ->
   ∃t,PSs (Pj CX P w K mg base N qual scope f cdv A outer s H E) body t/\t { nx:=fun _ H'=>Q .non H',rt:=Q } (Bt N vs) H) :
  FnOk P w K mg base CX (k+1) f (PySem.W.fnOf name qual params body scope dV kV doc pm an cdv ct) ps sp:=by
 refine⟨len,fun A outer s H args us vs Q E hr e0 hb r hsp=>?_⟩
 have hl:=len _ _ _ _ hsp
 have KX:K.In s.heap:=e0.mod.kin.keeps fun b o e=>(e0.bs b o e).1
 have lim:s.heap.NoLimit:=e0.mod.nolimit.keeps fun b o e=>(e0.bs b o e).1
 have hkind:∀y∈ps.zip us,scope.names.lookup y.1=some .local\/(scope.names.lookup y.1=some .cell/\((cellsFrom (s.heap.objs.size+1) scope.names []).lookup y.1).isSome=true):=fun⟨n,v⟩ hy=>by
  rcases S.par n (List.of_mem_zip hy).1 with q | q
  ·exact .inl q
  ·exact .inr ⟨q,PySem.W.cellsFrom_some _ _ _ (.inl q)⟩
 refine codeAny_call_function hr.depth (KX _ _ lk) rfl S.co S.gen rfl (PySem.W.codeRec_of KX hcd) (hb _ _ _ _ ?_)
 refine wpAny_newFunctionEnv_cells S.kind hkind fun env he s1 x=>?_
 subst he
 refine⟨lim.keeps x.toInCall.keep,codeAny_func ?_⟩
 obtain⟨t,ht,hq⟩:=hbody A outer s H vs Q E (hr.deeper _) hsp
 have I:Inv (Pj CX P w K mg base N qual scope f cdv A outer s H E) [] (Bt N vs) H s1:=Kk S hr.hd e0 hl r x
 refine wpAny_mono (ht [] s1 (Bt N vs) H _ I hq) (fun fl s' hs=>?_) fun e s' hs=>hs
 have fin:∀{σ':St} {H':Hp} {v:V} {u:Value},Inv (Pj CX P w K mg base N qual scope f cdv A outer s H E) [] σ' H' s'->RelV v u->Q v H'->CE outer P w H s Q u s' :=
  fun{σ' H' v u} J rv q=>⟨v,H',J.os,J.bare,J.base,J.hok,rv,q⟩
 cases fl with
 | ret u =>
  obtain⟨v,σ',H',J,rv,q⟩:=hs
  exact fin J rv q
 | next =>
  obtain⟨σ',H',J,q⟩:=hs
  exact fin (v:=V.non) (u:=Value.none) J rfl q
 | brk =>
  obtain⟨_,_,_,q⟩:=hs
  exact False.elim q
 | cont =>
  obtain⟨_,_,_,q⟩:=hs
  exact False.elim q
section
variable{X:Cx}{x:Str}{p pos:Pos}{e:Expr}{es:List Expr}{t:TA}{id T:String}{r:List V->Hp->VK->Prop}
noncomputable def tCB(r:List V->Hp->VK->Prop)(t:TA):TE:=fun σ H Q=>t σ H fun vs H1=>r vs H1 Q
theorem Nw(hc:E7 X (.builtin id) r)(hg:Gl X x)(hm:X.mg x=none)(hv:bootBuiltins x=some (.builtin id))(ha:PA X (e::es) t)(hn:x≠ "__name__":=by decide)(hdb:(x ==("__debug__":Str))=false:=by decide)
  (he:starEach (e::es) X.env =(false,eval e X.env)::starEach es X.env:=by rfl) (hpl:(backTo pos (starEach es X.env)).any (·.1)=false:=by rfl):PE X (.Call (.Name x p) (e::es) [] pos) (tCB r t):=by
 intro pins s σ H Q I h
 refine wpAny_Call_Name_kw (y4 I hg hm hv ?_ hn hdb)
 exact PyProof.Rows.callWith_builtin1 (thn (ha pos pins s σ H _ I h) fun us s1 ⟨vs,H1,I1,r1,q1⟩=>hc pins s1 σ H1 vs us Q I1 r1 q1) he hpl
theorem Kw(hc:E7 X (.type T) r)(hg:Gl X x)(hm:X.mg x=none)(hv:bootBuiltins x=some (.type T))(ha:PA X (e::es) t)(hn:x≠ "__name__":=by decide)(hdb:(x ==("__debug__":Str))=false:=by decide)
  (he:starEach (e::es) X.env =(false,eval e X.env)::starEach es X.env:=by rfl) (hpl:(backTo pos (starEach es X.env)).any (·.1)=false:=by rfl):PE X (.Call (.Name x p) (e::es) [] pos) (tCB r t):=by
 intro pins s σ H Q I h
 refine wpAny_Call_Name_kw (y4 I hg hm hv ?_ hn hdb)
 exact PyProof.Rows.callWith_type1 (thn (ha pos pins s σ H _ I h) fun us s1 ⟨vs,H1,I1,r1,q1⟩=>hc pins s1 σ H1 vs us Q I1 r1 q1) he hpl
theorem w9(hc:E7 X (.type T) r)(hg:Gl X x)(hm:X.mg x=none)(hv:bootBuiltins x=some (.type T))(hn:x≠ "__name__":=by decide)(hdb:(x ==("__debug__":Str))=false:=by decide) :
  PE X (.Call (.Name x p) [] [] pos) (tCB r Sr):=by
 intro pins s σ H Q I h
 refine wpAny_Call_Name_kw (y4 I hg hm hv ?_ hn hdb)
 exact PyProof.Rows.callWith_type0 (hc pins s σ H [] [] Q I .nil h)
end
theorem Ic{ns:List Int}:∀{us:List Value},Vals (ns.map V.int) us->IntsAre us ns:=by
 induction ns with
 | nil=>intro us r;rw[List.map_nil]at r;cases r;exact .nil
 | cons n ns ih =>
  intro us r
  rw[List.map_cons]at r
  cases r with
  | cons r1 r2 =>
   obtain⟨t,e⟩:=r1
   subst e
   exact .cons n t (ih r2)
noncomputable def ixN(n:Nat)(i:Int):Option Nat:=if 0<=i then(if i<n then some i.toNat else none)else if -(n:Int)<=i then some (i+n).toNat else none
noncomputable def atI{α:Type}(xs:List α)(i:Int):Option α:=(ixN xs.length i).bind fun j=>xs[j]?
theorem Kh{n:Nat}{i:Int}{j:Nat}(h:ixN n i=some j):seqIndex? i n=some j/\j<n/\-(n:Int)<=i/\i<n:=by
 unfold ixN at h
 by_cases h0:0<=i
 ·rw[if_pos h0]at h
  by_cases h1:i<n
  ·rw[if_pos h1]at h
   have e:i.toNat=j:=Option.some.inj h
   exact⟨by rw[seqIndex_of h0 h1,e],by omega,by omega,h1⟩
  ·rw[if_neg h1]at h;cases h
 ·rw[if_neg h0]at h
  by_cases h1:-(n:Int)<=i
  ·rw[if_pos h1]at h
   have e:(i+n).toNat=j:=Option.some.inj h
   exact⟨by rw[seqIndex_neg (by omega) h1,e],by omega,h1,by omega⟩
  ·rw[if_neg h1]at h;cases h
theorem Ko{α:Type}{xs:List α}{i:Int}{v:α}(h:atI xs i=some v):∃j,seqIndex? i xs.length=some j/\xs[j]?=some v/\j<xs.length/\-(xs.length:Int)<=i/\i<xs.length:=by
 unfold atI at h
 cases e:ixN xs.length i with
 | none=>rw[e]at h;cases h
 | some j =>
  rw[e]at h
  obtain⟨h1,h2,h3,h4⟩:=Kh e
  exact⟨j,h1,h,h2,h3,h4⟩
theorem Ay{α:Type}{xs:List α}{j:Nat}{v:α}(h:xs[j]?=some v):atI xs (j:Int)=some v:=by
 have hj:j<xs.length:=(List.getElem?_eq_some_iff.mp h).1
 have e:ixN xs.length (j:Int)=some j:=by
  unfold ixN
  rw[if_pos (by omega),if_pos (by omega)];simp
 unfold atI;rw[e];exact h
noncomputable def Rb(b:Expr):Prop:=∀o i,subscripted b false o i=operate [o,i] (getItem o i)
noncomputable def IxR(X:Cx)(r:R2):Prop :=
 ∀(value slice:Expr) (pins:List (Addr×Obj)) (s:Shared) (σ:St) (H:Hp) (x y:V) (v u:Value) (Q:VK),Inv X pins σ H s->RelV x v->RelV y u->r x y H Q ->
  subscripted slice false v u=operate [v,u] (getItem v u)->wpAny (model X.prog X.w) X.A (subscriptTail value slice v u) (EP X pins σ Q) X.xe s
noncomputable def MtR(X:Cx)(id:String)(r:V->List V->Hp->VK->Prop):Prop :=
 ∀(pins:List (Addr×Obj)) (s:Shared) (σ:St) (H:Hp) (x:V) (xs:List V) (v:Value) (us:List Value) (Q:VK),Inv X pins σ H s->RelV x v->Vals xs us->r x xs H Q ->
  wpAny (model X.prog X.w) X.A (call (.builtin id) (v::us)) (EP X pins σ Q) X.xe s
section
variable{X:Cx}{a b:Expr}{ta tb:TE}{pos:Pos}
theorem K4{r:R2}(hr:IxR X r)(ha:PE X a ta)(hb:PE X b tb)(hs:Rb b):PE X (.Subscript a b pos) (tOp r ta tb):=by
 intro pins s σ H Q I h
 exact Subscript_ (Wj ha hb I h fun v u s2 x y H2 I2 rx ry q=>hr a b pins s2 σ H2 x y v u Q I2 rx ry q (hs _ _))
noncomputable def Xt(K:PySem.W.Frag):R2:=fun x y H Q=>∃p xs i v,x = .ref p/\y = .int i/\SqL K H p xs/\atI xs i=some v/\Q v H
noncomputable def Ye(K:PySem.W.Frag):R2:=fun x y H Q=>∃p xs i v,x = .ref p/\y = .int i/\SqT K H p xs/\atI xs i=some v/\Q v H
theorem Qy:IxR X (Xt X.K):=by
 intro value slice pins s σ H x y v u Q I rx ry h hs
 obtain⟨p,xs,i,z,rfl,rfl,hq,he,q⟩:=h
 cases rx
 obtain⟨t,rfl⟩:=ry
 obtain⟨its,r,pl,hz⟩:=I.list hq
 obtain⟨j,h1,h2,h3,h4,h5⟩:=Ko he
 obtain⟨w,ew,rw'⟩:=r.get h2
 have hl:=r.length
 have hn:=Ab
 have fin:EP X pins σ Q w s:=⟨z,H,I,rw',q⟩
 by_cases h0:0<=i
 ·have hj:i.toNat=j:=by
   rw[seqIndex_of h0 h5]at h1
   exact Option.some.inj h1
  exact item_listR pl.isList h0 (by omega) (by rw[hj];simpa using ew) fin hs
 ·have hj:(i +(its.toArray.size:Int)).toNat=j:=by
   rw[seqIndex_neg (by omega) h4]at h1
   rw[List.size_toArray,<-hl]
   exact Option.some.inj h1
  exact subscriptTail_builtinR (x:=w) pl.isList.typeIs slot_list_getitem.lookup
   (wpAny_getItem_list_neg (Q:=fun r s'=>r=w/\EP X pins σ Q r s') pl.isList (by omega) (by rw[List.size_toArray]<;>omega) (by omega) (by rw[hj];simpa using ew) ⟨rfl,fin⟩) hs
theorem Ua:IxR X (Ye X.K):=by
 intro value slice pins s σ H x y v u Q I rx ry h hs
 obtain⟨p,xs,i,z,rfl,rfl,hq,he,q⟩:=h
 cases rx
 obtain⟨t,rfl⟩:=ry
 obtain⟨its,r,pl,hz⟩:=I.tuple hq
 obtain⟨j,h1,h2,h3,h4,h5⟩:=Ko he
 obtain⟨w,ew,rw'⟩:=r.get h2
 have hl:=r.length
 have hn:=Ab
 have fin:EP X pins σ Q w s:=⟨z,H,I,rw',q⟩
 exact subscriptTail_builtinR (x:=w) pl.typeIs slot_tuple_getitem.lookup
  (getItem_tuple (j:=j) (Q:=fun r s'=>r=w/\EP X pins σ Q r s') pl (by omega) (by omega) (by rw[List.size_toArray,<-hl];exact h1) (by simpa using ew) ⟨rfl,fin⟩) hs
theorem Jb(its:List Value)(n j:Nat)(u:Value):Obj.mapSeq (·.setIfInBounds j u) { cls:=.type "list",data:=.seq its.toArray n } ={ cls:=.type "list",data:=.seq (its.set j u).toArray n }:=by
 simp[Obj.mapSeq]
theorem Inv.lst{pins:List (Addr×Obj)}{σ:St}{H:Hp}{s:Shared}{p:Addr}{xs:List V}(I:Inv X pins σ H s)(h:H p=some (.lst xs)) :
  ∃(its:List Value) (n:Nat),Vals xs its/\s.heap.get? p=some { cls:=.type "list",data:=.seq its.toArray n }/\xs.length<=sizeLine:=by
 obtain⟨z,its,n,r,e⟩:=I.hok p _ h
 exact⟨its,n,r,e,z⟩
theorem Inv.lstUpd{pins:List (Addr×Obj)}{σ:St}{H:Hp}{s:Shared}{p:Addr}{xs ys:List V}{its its':List Value}{n n':Nat}{f:Obj->Obj}(I:Inv X pins σ H s)(h:H p=some (.lst xs))
  (ho:s.heap.get? p=some { cls:=.type "list",data:=.seq its.toArray n }) (hf:f { cls:=.type "list",data:=.seq its.toArray n } ={ cls:=.type "list",data:=.seq its'.toArray n' }) (r:Vals ys its') (hz:ys.length<=sizeLine) (t:Nat) :
  Inv X pins σ (upd H p (.lst ys)) { s with heap:=s.heap.update p f,toks:=t }:=by
 have e:(s.heap.update p f).get? p=some { cls:=.type "list",data:=.seq its'.toArray n' }:=by
  rw[Heap.get?_update_self f ho (by rw[hf]<;>rfl),hf]
 refine I.write (x:=p) (e:=p) (by rw[h];trivial) (.inl rfl) (fun b u hb q=>(Heap.get?_update_other _ _ (Ne.symm hb)).trans q) ⟨_,e⟩ ?_
 exact⟨hz,its',n',r,e⟩
noncomputable def Wi:V->V->V->Hp->(Hp->Prop)->Prop:=fun o i v H Q=>∃p xs k j,o = .ref p/\i = .int k/\H p=some (.lst xs)/\ixN xs.length k=some j/\Q (upd H p (.lst (xs.set j v)))
theorem Y9:Yc X Wi:=by
 intro pins s σ H o i v ov iv u Q I ro ri rv h
 obtain⟨p,xs,k,j,rfl,rfl,hp,hj,q⟩:=h
 cases ro
 obtain⟨t,rfl⟩:=ri
 obtain⟨its,n,r,ho,hz⟩:=I.lst hp
 obtain⟨h1,h2,h3,h4⟩:=Kh hj
 have hl:=r.length
 have hn:=Ab
 have I':Inv X pins σ (upd H p (.lst (xs.set j v))) { s with heap:=s.heap.update p (Obj.mapSeq (·.setIfInBounds j u)) } :=
  I.lstUpd hp ho (Jb its n j u) (r.set rv j) (by rw[List.length_set];exact hz) s.toks
 by_cases h0:0<=k
 ·have hk:k.toNat=j:=by
   rw[seqIndex_of h0 h4]at h1
   exact Option.some.inj h1
  exact PySem.W.ki_setAt ho h0 (by omega) (by rw[List.size_toArray,<-hl];exact h4) (by rw[hk];exact⟨_,I',q⟩)
 ·have hk:(k +(its.toArray.size:Int)).toNat=j:=by
   rw[seqIndex_neg (by omega) h3]at h1
   rw[List.size_toArray,<-hl]
   exact Option.some.inj h1
  exact PySem.W.ki_setBack ho (by omega) (by rw[List.size_toArray,<-hl];exact h3) (by omega) (by rw[hk];exact⟨_,I',q⟩)
noncomputable def Am:V->Bool
 | .non=>true
 | .bl _=>true
 | .int _=>true
 | .str _=>true
 | _=>false
noncomputable def eqV:V->V->Bool
 | .non,.non=>true
 | .bl a,.bl b=>a == b
 | .bl a,.int b=>(if a then 1 else 0) == b
 | .int a,.bl b=>a ==(if b then 1 else 0)
 | .int a,.int b=>a == b
 | .str a,.str b=>a == b
 | _,_=>false
theorem Tq{A:Around}{s:Shared}{y x:V}{u v:Value}(ry:RelV y u)(rx:RelV x v)(fy:Am y=true)(fx:Am x=true):SeqAt.EqAt A s u v (eqV y x):=by
 cases y with
 | non =>
  cases ry
  cases x with
  | non=>cases rx;exact SeqAt.EqAt.same _
  | bl b=>cases rx;exact SeqAt.EqAt.none_bool b
  | int b=>obtain⟨t,rfl⟩:=rx;exact SeqAt.EqAt.none_int b t
  | str b=>obtain⟨t,rfl⟩:=rx;exact SeqAt.EqAt.none_str b t
  | _=>exact absurd (show false=true from fx) Bool.false_ne_true
 | bl a =>
  cases ry
  cases x with
  | non=>cases rx;exact SeqAt.EqAt.bool_none a
  | bl b=>cases rx;exact SeqAt.EqAt.bool_bool a b
  | int b=>obtain⟨t,rfl⟩:=rx;exact SeqAt.EqAt.bool_int a b t
  | str b=>obtain⟨t,rfl⟩:=rx;exact SeqAt.EqAt.bool_str a b t
  | _=>exact absurd (show false=true from fx) Bool.false_ne_true
 | int a =>
  obtain⟨t',rfl⟩:=ry
  cases x with
  | non=>cases rx;exact SeqAt.EqAt.int_none a t'
  | bl b=>cases rx;exact SeqAt.EqAt.int_bool a t' b
  | int b=>obtain⟨t,rfl⟩:=rx;exact SeqAt.EqAt.int_int a t' b t
  | str b=>obtain⟨t,rfl⟩:=rx;exact SeqAt.EqAt.int_str a t' b t
  | _=>exact absurd (show false=true from fx) Bool.false_ne_true
 | str a =>
  obtain⟨t',rfl⟩:=ry
  cases x with
  | non=>cases rx;exact SeqAt.EqAt.str_none a t'
  | bl b=>cases rx;exact SeqAt.EqAt.str_bool a t' b
  | int b=>obtain⟨t,rfl⟩:=rx;exact SeqAt.EqAt.str_int a t' b t
  | str b=>obtain⟨t,rfl⟩:=rx;exact SeqAt.EqAt.str_str a t' b t
  | _=>exact absurd (show false=true from fx) Bool.false_ne_true
 | _=>exact absurd (show false=true from fy) Bool.false_ne_true
noncomputable def eqU(x:V)(u:Value):Bool:=match u with
 | .none=>eqV .non x
 | .bool b=>eqV (.bl b) x
 | .int i _=>eqV (.int i) x
 | .str z _=>eqV (.str z) x
 | _=>false
theorem Py{x y:V}{u:Value}(r:RelV y u)(f:Am y=true):eqU x u=eqV y x:=by
 cases y with
 | non=>cases r;rfl
 | bl b=>cases r;rfl
 | int i=>obtain⟨t,rfl⟩:=r;rfl
 | str z=>obtain⟨t,rfl⟩:=r;rfl
 | _=>exact absurd (show false=true from f) Bool.false_ne_true
theorem o9{x:V}:∀{xs:List V} {us:List Value},Vals xs us->xs.all Am=true->us.any (eqU x)=xs.any fun y=>eqV y x
 | _,_,.nil,_=>rfl
 | y::xs,u::us,.cons r t,f=>by
  rw[List.all_cons,Bool.and_eq_true]at f
  rw[List.any_cons,List.any_cons,Py r f.1,o9 t f.2]
theorem U5{A:Around}{s:Shared}{x:V}{v:Value}(rx:RelV x v)(fx:Am x=true):∀{xs:List V} {us:List Value},Vals xs us->xs.all Am=true->∀u∈us,SeqAt.EqAt A s u v (eqU x u)
 | _,_,.nil,_=>fun u hu=>by cases hu
 | y::xs,u::us,.cons r t,f=>fun u' hu=>by
  rw[List.all_cons,Bool.and_eq_true]at f
  rcases List.mem_cons.mp hu with rfl | hu
  ·rw[Py r f.1];exact Tq r rx f.1 fx
  ·exact U5 rx fx t f.2 u' hu
noncomputable def inV(x:V)(xs:List V):Bool:=xs.any fun y=>eqV y x
noncomputable def rIn(K:PySem.W.Frag)(neg:Bool):R2:=fun x y H Q=>∃p xs,y = .ref p/\(SqL K H p xs\/SqT K H p xs)/\Am x=true/\xs.all Am=true/\Q (.bl (if neg then !inV x xs else inV x xs)) H
theorem Lb:OpR X (compareOp .In) (rIn X.K false):=by
 intro pins s σ H x y v u Q I rx ry h
 obtain⟨p,xs,rfl,hq,fx,fs,q⟩:=h
 cases ry
 rcases hq with hq | hq
 ·obtain⟨its,r,pl,hz⟩:=I.list hq
  refine SeqAt.in_listAt (eqU x) pl.isList (fun w hw=>U5 rx fx r fs w (by simpa using hw)) ⟨.bl _,H,I,rfl,?_⟩
  rw[show its.toArray.any (eqU x)=its.any (eqU x) by simp,o9 r fs]
  exact q
 ·obtain⟨its,r,pl,hz⟩:=I.tuple hq
  refine SeqAt.in_tupleAt (eqU x) pl (fun w hw=>U5 rx fx r fs w (by simpa using hw)) ⟨.bl _,H,I,rfl,?_⟩
  rw[show its.toArray.any (eqU x)=its.any (eqU x) by simp,o9 r fs]
  exact q
theorem Cm:OpR X (compareOp .NotIn) (rIn X.K true):=by
 intro pins s σ H x y v u Q I rx ry h
 obtain⟨p,xs,rfl,hq,fx,fs,q⟩:=h
 cases ry
 rcases hq with hq | hq
 ·obtain⟨its,r,pl,hz⟩:=I.list hq
  refine SeqAt.notIn_listAt (eqU x) pl.isList (fun w hw=>U5 rx fx r fs w (by simpa using hw)) ⟨.bl _,H,I,rfl,?_⟩
  rw[show its.toArray.any (eqU x)=its.any (eqU x) by simp,o9 r fs]
  exact q
 ·obtain⟨its,r,pl,hz⟩:=I.tuple hq
  refine SeqAt.notIn_tupleAt (eqU x) pl (fun w hw=>U5 rx fx r fs w (by simpa using hw)) ⟨.bl _,H,I,rfl,?_⟩
  rw[show its.toArray.any (eqU x)=its.any (eqU x) by simp,o9 r fs]
  exact q
theorem Bu:E7 X (.builtin "len") (fun xs H Q=>∃p ys,xs = [.ref p]/\(SqL X.K H p ys\/SqT X.K H p ys)/\Q (.int ys.length) H):=by
 intro pins s σ H xs us Q I r h
 obtain⟨p,ys,rfl,hq,q⟩:=h
 obtain⟨u,rfl,rx⟩:=V1 r
 cases rx
 have hn:=Ab
 rcases hq with hq | hq
 ·obtain⟨its,r',pl,hz⟩:=I.list hq
  have hlen:=r'.length
  exact Calls.call_len_list pl.isList (by simp only[List.size_toArray]<;>omega) ⟨.int ys.length,H,I.tok _,⟨s.toks+1,by rw[List.size_toArray,hlen]⟩,q⟩
 ·obtain⟨its,r',pl,hz⟩:=I.tuple hq
  have hlen:=r'.length
  exact len_tuple pl (by simp only[List.size_toArray]<;>omega) ⟨.int ys.length,H,I.tok _,⟨s.toks+1,by rw[List.size_toArray,hlen]⟩,q⟩
theorem Cw:E7 X (.builtin "len") (fun xs H Q=>∃z,xs = [.str z]/\z.length<=sizeLine/\Q (.int z.length) H):=by
 intro pins s σ H xs us Q I r h
 obtain⟨z,rfl,hz,q⟩:=h
 obtain⟨u,rfl,t,rfl⟩:=V1 r
 have hn:=Ab
 exact len_str (by omega) ⟨.int z.length,H,I.tok _,⟨_,rfl⟩,q⟩
theorem Df:E7 X (.type "list") (fun xs H Q=>∃p ys,xs = [.ref p]/\(SqL X.K H p ys\/SqT X.K H p ys)/\∀l,H l=none->Q (.ref l) (upd H l (.lst ys))):=by
 intro pins s σ H xs us Q I r h
 obtain⟨p,ys,rfl,hq,q⟩:=h
 obtain⟨u,rfl,rx⟩:=V1 r
 cases rx
 have fin:∀(its:List Value),Vals ys its->ys.length<=sizeLine->∀(h':Heap) (c':Nat),(∀b o',s.heap.get? b=some o'->h'.get? b=some o') ->
   h'.get? s.heap.objs.size=some { cls:=.type "list",dict:=none,data:=.seq its.toArray c',slots:=#[] }->EP X pins σ Q (.ref s.heap.objs.size) { s with heap:=h' }:=fun its r' hz h' c' kp e =>
  ⟨.ref s.heap.objs.size,_,I.laid (t':=s.toks) kp (Nat.le_refl _) (show ObjOk X.prog X.w _ h' _ (.lst ys)from⟨hz,its,c',r',e⟩),rfl,q _ (I.hok.fresh (Nat.le_refl _))⟩
 rcases hq with hq | hq
 ·obtain⟨its,r',pl,hz⟩:=I.list hq
  have hlen:=r'.length
  obtain⟨o,ho,hc,n,hd⟩:=pl.isList
  exact call_list_seq p (.inl rfl) ho hc hd (fun h' c' kp e=>fin its r' hz h' c' kp e) (by simp only[List.size_toArray]<;>omega)
 ·obtain⟨its,r',pl,hz⟩:=I.tuple hq
  have hlen:=r'.length
  obtain⟨o,ho,hc,n,hd⟩:=pl
  exact call_list_seq p (.inr rfl) ho hc hd (fun h' c' kp e=>fin its r' hz h' c' kp e) (by simp only[List.size_toArray]<;>omega)
noncomputable def tyV(K:PySem.W.Frag)(T:String)(x:V)(H:Hp):Prop:=match x with
 | .str _=>T = "str"
 | .int _=>T = "int"
 | .ref p=>(T = "list"/\∃xs,SqL K H p xs)\/(T = "tuple"/\∃o,K.lookup p=some o/\o.cls = .type "tuple"/\o.dict=none) \/
   (T = "dict"/\((∃kvs,H p=some (.dK kvs))\/∃kvs,H p=some (.dT kvs)))\/(T = "set"/\∃S n,H p=some (.set S n))
 | _=>False
theorem Vx{pins:List (Addr×Obj)}{σ:St}{H:Hp}{s:Shared}{T:String}{x:V}{v:Value}(I:Inv X pins σ H s)(r:RelV x v)(ty:tyV X.K T x H) :
  s.TypeIs v T/\∀a,v = .ref a->∃ob,s.heap.get? a=some ob/\ob.dict=none:=by
 cases x with
 | str z =>
  obtain⟨t,rfl⟩:=r
  cases(show T = "str" from ty)
  exact⟨typeIs_str s z t,fun _ e=>nomatch e⟩
 | int i =>
  obtain⟨t,rfl⟩:=r
  cases(show T = "int" from ty)
  exact⟨typeIs_int s i t,fun _ e=>nomatch e⟩
 | ref p =>
  cases r
  rcases ty with⟨rfl,xs,hq⟩ | ⟨rfl,o,hk,hc,hd⟩ | ⟨rfl,hk⟩ | ⟨rfl,S,n,hk⟩
  ·obtain⟨its,_,pl,_⟩:=I.list hq
   refine⟨pl.isList.typeIs,fun a e=>?_⟩
   cases e
   obtain⟨o,n,e,c,hd,_⟩:=pl
   exact⟨o,e,hd⟩
  ·refine⟨⟨o,I.kIn p o hk,hc⟩,fun a e=>?_⟩
   cases e
   exact⟨o,I.kIn _ o hk,hd⟩
  ·have z:∃o,s.heap.get? p=some o/\o.ExactDict:=by
    rcases hk with⟨kvs,hk⟩ | ⟨kvs,hk⟩
    ·obtain⟨_,_,_,_,o,_,_,e,ex,_⟩:=I.hok p _ hk
     exact⟨o,e,ex⟩
    ·obtain⟨_,_,_,_,o,_,_,e,ex,_⟩:=I.hok p _ hk
     exact⟨o,e,ex⟩
   obtain⟨o,e,ex⟩:=z
   refine⟨⟨o,e,ex.1⟩,fun a e2=>?_⟩
   cases e2
   exact⟨o,e,ex.2.1⟩
  ·obtain⟨o,_,_,_,e,ex,_⟩:=I.hok p _ hk
   refine⟨⟨o,e,ex.1⟩,fun a e2=>?_⟩
   cases e2
   exact⟨o,e,ex.2.1⟩
 | _=>exact False.elim ty
noncomputable def tBM(K:PySem.W.Frag)(T:String)(r:V->List V->Hp->VK->Prop)(to:TE)(t:TA):TE:=fun σ H Q=>to σ H fun x H1=>tyV K T x H1/\t σ H1 fun xs H2=>r x xs H2 Q
variable{o e:Expr}{es:List Expr}{to:TE}{t:TA}{name:Str}{apos cpos:Pos}{T id:String}{r:V->List V->Hp->VK->Prop}
theorem Wl(pa:PlainAttrs T)(slot:Slot T name id)(hty:typeOf (.builtin id)=pure (.type "method_descriptor"))(hm:MtR X id r)(ho:PE X o to)(ha:PA X (e::es) t)
  (hbase:attributeBase o name X.env (eval o X.env)=eval o X.env:=by rfl)
  (hfew:((backTo cpos (starEach (e::es) X.env)).all (fun x=>!x.1) &&(backToKw cpos (keywordEach [] X.env)).all (fun x=>x.1.isSome)
   && decide ((e::es).length +([]:List Keyword).length +(if([]:List Keyword).isEmpty then 0 else 1)<30))=true:=by rfl)
  (hline:(apos.endLine == cpos.line)=true:=by rfl) (hs:starEach (e::es) X.env =(false,eval e X.env)::starEach es X.env:=by rfl) (hplain:(backTo cpos (starEach es X.env)).any (·.1)=false:=by rfl) :
  PE X (.Call (.Attribute o name apos) (e::es) [] cpos) (tBM X.K T r to t):=by
 intro pins s σ H Q I h
 refine wpAny_Call_method_late hbase hfew hline rfl (thn (ho pins s σ H _ I h) fun v s1 ⟨x,H1,I1,r1,ty,q1⟩=>?_)
 obtain⟨h1,h2⟩:=Vx I1 r1 ty
 refine⟨T,id,pa,slot,hty,h1,h2,?_⟩
 have hA:=ha cpos pins s1 σ H1 _ I1 q1
 rw[hs]at hA⊢
 refine Calls.callWith_builtin (by show(false||(backTo cpos (starEach es X.env)).any (·.1))=false;rw[hplain]<;>rfl) (Calls.evalArgs_plain ?_)
 exact thn hA fun us s2 ⟨vs,H2,I2,r2,q2⟩=>hm pins s2 σ H2 x vs v us Q I2 r1 r2 q2
end
noncomputable def MtM(X:Cx)(id:String)(r:V->List V->Hp->VK->Prop):Prop :=
 ∀(pins:List (Addr×Obj)) (s:Shared) (σ:St) (H:Hp) (x:V) (xs:List V) (v:Value) (us:List Value) (Q:VK),Inv X pins σ H s->RelV x v->Vals xs us->r x xs H Q ->
  wpAny (model X.prog X.w) X.A (call (.builtin id) (v::us)) (EP X pins σ Q) X.xe s
theorem Vals.one:∀{x:V} {us:List Value},Vals [x] us->∃u,us = [u]/\RelV x u
 | _,_,.cons r .nil=>⟨_,rfl,r⟩
theorem Vals.two:∀{x y:V} {us:List Value},Vals [x,y] us->∃u v,us = [u,v]/\RelV x u/\RelV y v
 | _,_,_,.cons r (.cons q .nil)=>⟨_,_,rfl,r,q⟩
theorem Vals.eraseIdx:∀{xs:List V} {us:List Value} (i:Nat),Vals xs us->Vals (xs.eraseIdx i) (us.eraseIdx i)
 | _,_,_,.nil=>.nil
 | _,_,0,.cons _ t=>t
 | _,_,i+1,.cons r t=>.cons r (Vals.eraseIdx i t)
theorem Vals.rep{xs:List V}{us:List Value}(h:Vals xs us):∀k:Nat,Vals (List.replicate k xs).flatten (List.replicate k us).flatten
 | 0=>.nil
 | k+1=>by
  rw[List.replicate_succ,List.replicate_succ,List.flatten_cons,List.flatten_cons]
  exact Vals.append h (Vals.rep h k)
theorem Co{α:Type}:∀(l:List α) (i:Nat),(l.eraseIdx i).length<=l.length
 | [],_=>Nat.le_refl _
 | _::_,0=>Nat.le_succ _
 | _::r,i+1=>Nat.succ_le_succ (Co r i)
theorem Ds(its:List Value):∀(k:Nat) (acc:List Value),
  List.foldl (fun x1 x2=>x1++x2) acc.toArray (List.replicate k its.toArray) =(acc ++(List.replicate k its).flatten).toArray
 | 0,acc=>by simp
 | k+1,acc=>by
  have e:acc.toArray++its.toArray =(acc++its).toArray:=by simp
  have e2:(acc++its) ++(List.replicate k its).flatten=acc ++(List.replicate (k+1) its).flatten:=by
   rw[List.replicate_succ,List.flatten_cons,List.append_assoc]
  rw[<-e2,<-Ds its k (acc++its),<-e,List.replicate_succ,List.foldl_cons]
section
variable{X:Cx}{pins:List (Addr×Obj)}{σ:St}{H:Hp}{s:Shared}{l b:Addr}{xs ys zs:List V}
theorem Inv.lset{its its':List Value}{n:Nat}{f:Array Value->Array Value}{t':Nat}(I:Inv X pins σ H s)(hH:H l=some (.lst xs))
  (e:s.heap.get? l=some { cls:=.type "list",data:=.seq its.toArray n }) (hf:f its.toArray=its'.toArray) (hv:Vals ys its') (hz:ys.length<=sizeLine) :
  Inv X pins σ (upd H l (.lst ys)) { s with heap:=s.heap.update l (Obj.mapSeq f),toks:=t' }:=by
 have q:=PySem.IsL.update e f
 rw[hf]at q
 refine I.write (x:=l) (e:=l) (by rw[hH];exact trivial) (.inl rfl) (fun b' u hb hu=>(Heap.get?_update_other s.heap (Obj.mapSeq f) (Ne.symm hb)).trans hu) ⟨_,q⟩ ?_
 exact⟨hz,its',_,hv,q⟩
theorem Inv.lnew{its:List Value}{t':Nat}(I:Inv X pins σ H s)(hv:Vals ys its)(hz:ys.length<=sizeLine) :
  Inv X pins σ (upd H s.heap.objs.size (.lst ys)) { s with heap:=s.heap.push { cls:=.type "list",data:=.seq its.toArray },toks:=t' } :=
 I.laid (fun _ _ q=>Heap.get?_push_of_some _ q) (Nat.le_refl _) ⟨hz,its,0,hv,Heap.get?_push_size _ rfl⟩
theorem Inv.fresh(I:Inv X pins σ H s):H s.heap.objs.size=none:=I.hok.fresh (Nat.le_refl _)
theorem Inv.lstM(I:Inv X pins σ H s)(hH:H l=some (.lst xs)):xs.length<=sizeLine/\∃(its:List Value) (n:Nat),Vals xs its/\xs.length=its.length/\s.heap.get? l=some { cls:=.type "list",data:=.seq its.toArray n }:=by
 obtain⟨z,its,n,r,e⟩:=I.hok l _ hH
 exact⟨z,its,n,r,r.length,e⟩
theorem Oa{n:Nat}(h:n<=sizeLine):Builtin.List.listTooLong n=false:=by
 unfold Builtin.List.listTooLong
 exact decide_eq_false (by omega)
end
section
variable{X:Cx}
noncomputable def Sj:V->List V->Hp->VK->Prop:=fun x vs H Q=>∃l xs y,x = .ref l/\vs = [y]/\H l=some (.lst xs)/\xs.length<sizeLine/\Q .non (upd H l (.lst (xs ++ [y])))
theorem E8:MtM X "list.append" Sj:=by
 intro pins s σ H x vs v us Q I rx rv h
 obtain⟨l,xs,y,rfl,rfl,hH,hz,q⟩:=h
 cases rx
 obtain⟨u,rfl,ru⟩:=rv.one
 obtain⟨z,its,n,r,hl,e⟩:=I.lstM hH
 refine call_meets F.slot_list_append ⟨_,e,rfl⟩ F.entry_list_append (F.args_list_append_2 _ _) (PySem.list_append l its.toArray n u (by rw[List.size_toArray];omega)) ⟨e,?_⟩
 refine⟨.non,_,I.lset (its':=its ++ [u]) hH e (by simp) (r.append (.cons ru .nil)) ?_,rfl,q⟩
 rw[List.length_append,List.length_singleton]
 omega
noncomputable def Tt:V->List V->Hp->VK->Prop:=fun x vs H Q=>∃l xs i k y,x = .ref l/\vs = [.int i]/\H l=some (.lst xs)/\-(2^63)<=i/\i<2^63/\seqIndex? i xs.length=some k/\xs[k]?=some y/\Q y (upd H l (.lst (xs.eraseIdx k)))
theorem Ob:MtM X "list.pop" Tt:=by
 intro pins s σ H x vs v us Q I rx rv h
 obtain⟨l,xs,i,k,y,rfl,rfl,hH,h1,h2,hk,hy,q⟩:=h
 cases rx
 obtain⟨u,rfl,ru⟩:=rv.one
 obtain⟨t,rfl⟩:=ru
 obtain⟨z,its,n,r,hl,e⟩:=I.lstM hH
 obtain⟨w,hw,rw'⟩:=r.get hy
 refine call_meets F.slot_list_pop ⟨_,e,rfl⟩ F.entry_list_pop (F.args_list_pop_2 _ _)
  (MeetsSeq.list_pop_at l its.toArray n i t k w (fitsIndex_both h1 h2) (by rw[List.size_toArray,<-hl];exact hk) (by rw[<-Array.getElem?_toList];exact hw) (by rw[List.size_toArray];omega)) ⟨e,?_⟩
 refine⟨y,_,I.lset (its':=its.eraseIdx k) hH e ?_ (r.eraseIdx k) ?_,rw',q⟩
 ·show its.toArray.eraseIdxIfInBounds k =(its.eraseIdx k).toArray
  rw[List.eraseIdxIfInBounds_toArray]
 ·have:=Co xs k
  omega
noncomputable def Zc:R2:=fun x y H Q=>∃l k xs,x = .ref l/\y = .int k/\H l=some (.lst xs)/\-(2^63)<=k/\k<2^63/\xs.length*k.toNat<=sizeLine /\
 ∀p,H p=none->Q (.ref p) (upd H p (.lst (List.replicate k.toNat xs).flatten))
theorem Rz{α:Type}(xs:List α)(k:Nat):(List.replicate k xs).flatten.length=k*xs.length:=by
 induction k with
 | zero=>simp
 | succ k ih=>rw[List.replicate_succ,List.flatten_cons,List.length_append,ih,Nat.succ_mul,Nat.add_comm]
theorem Pt:OpR X (binaryOp .Mult) Zc:=by
 intro pins s σ H x y v u Q I rx ry h
 obtain⟨l,k,xs,rfl,rfl,hH,h1,h2,hz,q⟩:=h
 cases rx
 obtain⟨t,rfl⟩:=ry
 obtain⟨z,its,n,r,hl,e⟩:=I.lstM hH
 have hlen:its.toArray.size*k.toNat<=sizeLine:=by rw[List.size_toArray,<-hl];exact hz
 have hcap:¬its.toArray.size*k.toNat >(2^63-1) / 8:=by
  have:(sizeLine:Nat)<=(2^63-1) / 8:=by decide
  omega
 have hfit:¬(!Builtin.List.listFitsIndex k)=true:=by
  rw[fitsIndex_both h1 h2]
  exact Bool.false_ne_true
 have hlong:¬Builtin.List.listTooLong (its.toArray.size*k.toNat)=true:=by
  rw[Oa hlen]
  exact Bool.false_ne_true
 have hnew:List.foldl (fun x1 x2=>x1++x2) #[] (List.replicate (if its.toArray.isEmpty=true then 0 else k.toNat) its.toArray) =(List.replicate k.toNat its).flatten.toArray:=by
  have f0:∀m:Nat,List.foldl (fun x1 x2=>x1++x2) #[] (List.replicate m its.toArray) =(List.replicate m its).flatten.toArray:=fun m=>by
   have:=Ds its m []
   rw[List.nil_append]at this
   exact this
  rw[f0]
  cases its with
  | nil=>simp
  | cons a r'=>rw[if_neg (by simp)]
 refine wpAny_binaryOp_repeat_ref (T := "list") (U := "int") (by decide) ⟨_,e,rfl⟩ (fun s'=>typeIs_int s' k t) noFill_list_mul F.fills_int_mul F.slot_int_rmul repeat_list F.slot_int_index.lookup
  (call_meets F.slot_int_rmul (typeIs_int s k t) F.entry_int_rmul (F.args_int_rmul_2 _ _) (int___rmul___int_list k t l its.toArray n)
   ⟨e,rfl,⟨_,e,rfl⟩,call_meets F.slot_list_mul ⟨_,e,rfl⟩ F.entry_list_mul (F.args_list_mul_2 _ _) (AutoListH.list___mul___list_int_3 l its.toArray n k t hfit hcap hlong) ⟨e,?_⟩⟩)
 rw[hnew]
 exact⟨.ref _,_,I.lnew (t':=s.toks) (r.rep k.toNat) (by rw[Rz,Nat.mul_comm];exact hz),rfl,q _ I.fresh⟩
end
section
variable{κ:Type}[DecidableEq κ]
noncomputable def R0(kvs:List (κ×V))(k:κ):Option V:=(kvs.find? fun kv=>decide (kv.1=k)).map (·.2)
noncomputable def Gp(kvs:List (κ×V))(k:κ)(v:V):List (κ×V) :=
 if(kvs.any fun kv=>decide (kv.1=k))=true then kvs.map (fun kv=>if kv.1=k then(kv.1,v)else kv)else kvs ++ [(k,v)]
theorem G5{p:κ×V}{r:List (κ×V)}{k:κ}(e:p.1=k):R0 (p::r) k=some p.2:=by simp[R0,List.find?_cons,e]
theorem G6{p:κ×V}{r:List (κ×V)}{k:κ}(e:¬p.1=k):R0 (p::r) k=R0 r k:=by simp[R0,List.find?_cons,e]
theorem Y6(k:κ):∀kvs:List (κ×V),(kvs.any fun kv=>decide (kv.1=k)) =(R0 kvs k).isSome
 | []=>rfl
 | p::r=>by
  rw[List.any_cons]
  by_cases e:p.1=k
  ·simp only[G5 e,decide_eq_true e,Bool.true_or,Option.isSome_some]
  ·rw[G6 e,decide_eq_false e,Bool.false_or];exact Y6 k r
theorem Hr(k j:κ)(y:V):∀kvs:List (κ×V),R0 (kvs.map fun kv=>if kv.1=k then(kv.1,y)else kv) j =(R0 kvs j).map fun x=>if j=k then y else x
 | []=>rfl
 | p::r=>by
  have ih:=Hr k j y r
  rw[List.map_cons]
  by_cases h:p.1=k
  ·rw[if_pos h]
   by_cases e:p.1=j
   ·rw[G5 (p:=(p.1,y)) e,G5 e,Option.map_some,if_pos (e.symm.trans h)]
   ·rw[G6 (p:=(p.1,y)) e,G6 e,ih]
  ·rw[if_neg h]
   by_cases e:p.1=j
   ·rw[G5 (p:=p) e,G5 e,Option.map_some,if_neg (fun z=>h (e.trans z))]
   ·rw[G6 (p:=p) e,G6 e,ih]
theorem Dl(k j:κ)(y:V):∀kvs:List (κ×V),R0 kvs k=none->R0 (kvs ++ [(k,y)]) j=if j=k then some y else R0 kvs j
 | [],_=>by
  by_cases e:k=j
  ·rw[if_pos e.symm];exact G5 (p:=(k,y)) e
  ·rw[if_neg (fun z=>e z.symm)];exact G6 (p:=(k,y)) e
 | p::r,hn=>by
  rw[List.cons_append]
  have hk:¬p.1=k:=fun z=>by rw[G5 z]at hn;cases hn
  rw[G6 hk]at hn
  have ih:=Dl k j y r hn
  by_cases e:p.1=j
  ·rw[G5 e,G5 e,if_neg (fun z=>hk (e.trans z))]
  ·rw[G6 e,G6 e,ih]
theorem Of(kvs:List (κ×V))(k j:κ)(y:V):R0 (Gp kvs k y) j=if j=k then some y else R0 kvs j:=by
 unfold Gp
 by_cases a:(kvs.any fun kv=>decide (kv.1=k))=true
 ·rw[if_pos a,Hr]
  rw[Y6]at a
  by_cases e:j=k
  ·obtain⟨x,hx⟩:=Option.isSome_iff_exists.mp a
   rw[if_pos e,e,hx,Option.map_some,if_pos rfl]
  ·rw[if_neg e]
   cases R0 kvs j with
   | none=>rfl
   | some x=>rw[Option.map_some,if_neg e]
 ·rw[if_neg a]
  refine Dl k j y kvs ?_
  rw[Y6]at a
  cases q:R0 kvs k with
  | none=>rfl
  | some x=>rw[q]at a;exact(a rfl).elim
theorem j8(kvs:List (κ×V))(k:κ)(v:V):(Gp kvs k v).length<=kvs.length+1:=by
 unfold Gp
 split
 ·rw[List.length_map];omega
 ·rw[List.length_append,List.length_cons,List.length_nil];omega
theorem Ni{kvs:List (κ×V)}{k:κ}(v:V)(h:R0 kvs k=none):Gp kvs k v=kvs ++ [(k,v)]:=by
 unfold Gp
 rw[Y6,h]
 exact if_neg (by decide)
theorem KV.val{kvs:List (κ×V)}{vs:List (κ×Value)}(r:KV kvs vs)(k:κ):RelO (R0 kvs k) (valueAt vs k):=by
 unfold KV at r
 induction r with
 | nil=>exact True.intro
 | @cons p q ps qs h t ih =>
  obtain⟨h1,h2⟩:=h
  by_cases e:p.1=k
  ·have e':q.1=k:=h1.symm.trans e
   have b:valueAt (q::qs) k=some q.2:=by simp[valueAt,List.find?_cons,e']
   rw[G5 e,b];exact h2
  ·have e':¬q.1=k:=fun z=>e (h1.trans z)
   have b:valueAt (q::qs) k=valueAt qs k:=by simp[valueAt,List.find?_cons,e']
   rw[G6 e,b];exact ih
theorem KV.any{kvs:List (κ×V)}{vs:List (κ×Value)}(r:KV kvs vs)(k:κ):(kvs.any fun kv=>decide (kv.1=k))=vs.any fun kv=>decide (kv.1=k):=by
 unfold KV at r
 induction r with
 | nil=>rfl
 | cons h t ih=>rw[List.any_cons,List.any_cons,ih,h.1]
theorem KV.repl{kvs:List (κ×V)}{vs:List (κ×Value)}(r:KV kvs vs)(k:κ){y:V}{u:Value}(ry:RelV y u) :
  KV (kvs.map fun kv=>if kv.1=k then(kv.1,y)else kv) (vs.map fun kv=>if kv.1=k then(kv.1,u)else kv):=by
 unfold KV at r⊢
 induction r with
 | nil=>exact .nil
 | @cons p q ps qs h t ih =>
  rw[List.map_cons,List.map_cons]
  refine .cons ?_ ih
  obtain⟨h1,h2⟩:=h
  by_cases e:p.1=k
  ·rw[if_pos e,if_pos (h1.symm.trans e)];exact⟨h1,ry⟩
  ·rw[if_neg e,if_neg (fun z=>e (h1.trans z))];exact⟨h1,h2⟩
theorem KV.put{kvs:List (κ×V)}{vs:List (κ×Value)}(r:KV kvs vs)(k:κ){y:V}{u:Value}(ry:RelV y u):KV (Gp kvs k y) (stored vs k u):=by
 unfold Gp stored
 rw[r.any k]
 by_cases e:(vs.any fun kv=>decide (kv.1=k))=true
 ·rw[if_pos e,if_pos e];exact r.repl k ry
 ·rw[if_neg e,if_neg e];exact Paired.snoc r ⟨rfl,ry⟩
theorem KV.length{kvs:List (κ×V)}{vs:List (κ×Value)}(r:KV kvs vs):kvs.length=vs.length:=Paired.length r
end
theorem Lx{P:Program}{w:World}{k:Key}{u:Value}(r:RelV (kV k) u):(C0 P w).is k u=true:=by
 cases k with
 | inl i=>obtain⟨t,e⟩:=(show ∃t,u=Value.int i t from r);subst e;exact Eb P w i t
 | inr x=>obtain⟨t,e⟩:=(show ∃t,u=Value.str x t from r);subst e;exact Dz P w x t
theorem Dt{P:Program}{w:World}:∀{ks:List Key} {us:List Value},Vals (ks.map kV) us->ItemsAre (C0 P w) ks us
 | [],_,r=>by rw[List.map_nil]at r;cases r;exact .nil
 | k::ks,_,r=>by
  rw[List.map_cons]at r
  cases r with
  | cons h t=>exact .cons (Lx h) (Dt t)
noncomputable abbrev KT(H:Hp):List (List Key×V)->List (List Key×Addr×Value)->Prop:=Paired fun p q=>p.1=q.1/\H q.2.1=some (.tup (p.1.map kV))/\RelV p.2 q.2.2
theorem KT.val{H:Hp}{kvs:List (List Key×V)}{xs:List (List Key×Addr×Value)}(r:KT H kvs xs)(k:List Key):RelO (R0 kvs k) ((atKey xs k).map (·.2)):=by
 induction r with
 | nil=>exact True.intro
 | @cons p q ps qs h t ih =>
  obtain⟨h1,_,h2⟩:=h
  by_cases e:p.1=k
  ·have e':q.1=k:=h1.symm.trans e
   have b:atKey (q::qs) k=some q.2:=by simp[atKey,List.find?_cons,e']
   rw[G5 e,b];exact h2
  ·have e':¬q.1=k:=fun z=>e (h1.trans z)
   have b:atKey (q::qs) k=atKey qs k:=by simp[atKey,List.find?_cons,e']
   rw[G6 e,b];exact ih
section
variable{P:Program}{w:World}{H:Hp}{h:Heap}{a:Addr}
theorem Ug{u:HO}(ok:HOk P w H h)(e:Rd H a u):ObjOk P w H h a u:=e.ok ok
theorem Nx{kvs:List (Key×V)}(ok:HOk P w H h)(e:Rd H a (.dK kvs)):kvs.length<=sizeLine/\(a == sysModules)=false/\∃vs,KV kvs vs/\h.DictOf (C0 P w) a vs :=
 show ObjOk P w H h a (.dK kvs)from Ug ok e
theorem Uz{kvs:List (Key×V)}(ok:HOk P w H h)(e:H a=some (.dK kvs)):kvs.length<=sizeLine/\(a == sysModules)=false/\∃vs,KV kvs vs/\h.DictOf (C0 P w) a vs:=Nx ok (.inl e)
theorem y9{ks:List Key}(ok:HOk P w H h)(e:H a=some (.tup (ks.map kV))):(tupleKind (C0 P w)).is h ks a:=by
 obtain⟨_,its,r,o,h1,h2,n,h3⟩:=(show ObjOk P w H h a (.tup (ks.map kV))from ok a _ e)
 exact⟨o,its.toArray,n,h1,h2,h3,by simpa using Dt r⟩
theorem Rn{kvs:List (List Key×V)}(ok:HOk P w H h)(e:Rd H a (.dT kvs)):kvs.length<=sizeLine/\(a == sysModules)=false /\
  ∃xs,KT H kvs xs/\h.DictOfH (tupleKind (C0 P w)) a xs:=by
 obtain⟨z,y,xs,r,o,es,ep,h1,h2,h3,h4,h5⟩:=(show ObjOk P w H h a (.dT kvs)from Ug ok e)
 refine⟨z,y,xs,r,o,es,ep,h1,h2,h3,h4,fun x hx=>?_,h5⟩
 have all:∀{l:List (List Key×V)} {m:List (List Key×Addr×Value)},KT H l m->∀x∈m,(tupleKind (C0 P w)).is h x.1 x.2.1:=by
  intro l m q
  induction q with
  | nil=>intro x hx;exact nomatch hx
  | @cons p q ps qs hq t ih =>
   intro x hx
   rcases List.mem_cons.mp hx with e | hx
   ·subst e
    exact y9 ok (by rw[<-hq.1];exact hq.2.1)
   ·exact ih x hx
 exact all r x hx
end
noncomputable def DGet(H:Hp)(a:Addr)(y:V)(r:Option V):Prop :=
 (∃kvs k,Rd H a (.dK kvs)/\y=kV k/\r=R0 kvs k)\/∃kvs k b,Rd H a (.dT kvs)/\y = .ref b/\H b=some (.tup (k.map kV))/\r=R0 kvs k
theorem DGet.k{H:Hp}{a:Addr}{kvs:List (Key×V)}{k:Key}(e:H a=some (.dK kvs)):DGet H a (kV k) (R0 kvs k):=.inl ⟨kvs,k,.inl e,rfl,rfl⟩
section
variable{X:Cx}{pins:List (Addr×Obj)}{σ:St}{H:Hp}{s:Shared}{a:Addr}{y v:V}{u r:Value}{o:Option V}{A:Around}{E:Value->Shared->Prop}
theorem Inv.big(I:Inv X pins σ H s):sysModules<s.heap.objs.size:=by
 have h:mainGlobals<s.heap.objs.size:=(I.mod.glob.keeps I.bk).lt
 exact Nat.lt_trans (by decide) h
theorem Mb{Q:Value->Shared->Prop}(hu:A.units+1<cLine)(I:Inv X pins σ H s)(g:DGet H a y (some v))(ry:RelV y u)(h:∀w' s',Inv X pins σ H s'->RelV v w'->Q w' s') :
  wpAny (model X.prog X.w) A (getItem (.ref a) u) Q E s:=by
 rcases g with⟨kvs,k,e,ey,l⟩ | ⟨kvs,k,b,e,ey,eb,l⟩
 ·subst ey
  obtain⟨z,hd,vs,rel,dd⟩:=Nx I.hok e
  obtain⟨w',hw,rw'⟩:=RelO.some_of (v:=v) (o:=valueAt vs k) (by rw[l];exact rel.val k)
  exact wpAny_getItem_of (Lx ry) dd.mapOf hw (h w' _ (I.tok _) rw')
 ·subst ey
  cases(show u=Value.ref b from ry)
  obtain⟨z,hd,xs,rel,dd⟩:=Rn I.hok e
  obtain⟨w',hw,rw'⟩:=RelO.some_of (v:=v) (o:=(atKey xs k).map (·.2)) (by rw[l];exact rel.val k)
  obtain⟨p,hp,hp2⟩:=Option.map_eq_some_iff.mp hw
  refine wpAny_getItem_heap (tupleKind_room_in1 hu) (y9 I.hok eb) dd hp ?_
  rw[hp2]
  exact h w' _ (I.tok _) rw'
theorem Rk{h':Heap}{t':Nat}{ob:HO}(I:Inv X pins σ H s)(mu:Mut (H a))(hs:Heap.SameBut a s.heap h')(he:∃q,h'.get? a=some q)(new:ObjOk X.prog X.w (upd H a ob) h' a ob) :
  Inv X pins σ (upd H a ob) { s with heap:=h',toks:=t' } :=
 I.write (x:=a) (e:=a) mu (.inl rfl) (fun b q hb z=>(hs.2 b hb).trans z) he new
theorem Vv{P:Program}{w:World}{H':Hp}{h':Heap}{kvs:List (Key×V)}{vs:List (Key×Value)}(z:kvs.length<=sizeLine)(hd:(a == sysModules)=false)(rel:KV kvs vs)(dd:h'.DictOf (C0 P w) a vs) :
  ObjOk P w H' h' a (.dK kvs):=⟨z,hd,vs,rel,dd⟩
end
noncomputable def Xw(i:Expr):Prop:=∀ov iv,subscripted i false ov iv=operate [ov,iv] (getItem ov iv)
theorem Ru{prog:Program}{w:World}{A:Around}{E:Value->Shared->Prop}{s:Shared}{env:Env}{value slice:Expr}{pos:Pos}{T id:String}{Q:Value->Shared->Prop}
  (hl:typeLookup (.type T) "__getitem__" = pure (some (.builtin id))) (hs:Xw slice)
  (h:wpAny (model prog w) A (eval value env) (fun o s₁=>wpAny (model prog w) A (eval slice env) (fun i s₂=>s₂.TypeIs o T/\wpAny (model prog w) A (getItem o i) Q E s₂) E s₁) E s) :
  wpAny (model prog w) A (eval (.Subscript value slice pos) env) Q E s:=by
 refine Subscript_ (wpAny_mono h (fun o s₁ h₁=>wpAny_mono h₁ (fun i s₂ h₂=>?_) fun _ _ x=>x) fun _ _ x=>x)
 obtain⟨hT,h₂⟩:=h₂
 unfold subscriptTail
 refine wpAny_bind ?_
 rw[getitemInPython_of_ne hT.not_modules]
 refine wpAny_bind (wpAny_specialOf hT hl ?_)
 have fin:wpAny (model prog w) A (subscripted slice false o i) (fun r s₃=>wpAny (model prog w) A (letTemporaryGo value o r >>= fun _=>pure r) Q E s₃) E s₂:=by
  rw[hs o i]
  exact wpAny_operating (wpAny_mono h₂ (fun r s₃ h₃=>wpAny_bind (wpAny_letTemporaryGo (wpAny_pure h₃))) fun _ _ x=>x)
 first
  | exact wpAny_pure (wpAny_bind fin)
  | exact wpAny_bind (wpAny_pure (wpAny_bind fin))
  | exact wpAny_bind fin
theorem Ea{X:Cx}{pins:List (Addr×Obj)}{σ:St}{H:Hp}{s:Shared}{a:Addr}{y:V}{o:Option V}(I:Inv X pins σ H s)(g:DGet H a y o):s.TypeIs (.ref a) "dict":=by
 rcases g with⟨kvs,k,e,_,_⟩ | ⟨kvs,k,b,e,_,_,_⟩
 ·obtain⟨_,_,vs,_,dd⟩:=Nx I.hok e
  exact dd.typeIs
 ·obtain⟨_,_,xs,_,dd⟩:=Rn I.hok e
  exact dd.typeIs
noncomputable def Ts(td ty:TE):TE:=fun σ H Q=>td σ H fun x H1=>ty σ H1 fun y H2=>∃a v,x = .ref a/\DGet H2 a y (some v)/\Q v H2
section
variable{X:Cx}{o i e value:Expr}{pos pos' tpos:Pos}{td ty tv:TE}
theorem G9(hu:X.A.units+1<cLine)(ho:PE X o td)(hi:PE X i ty)(hs:Xw i):PE X (.Subscript o i pos) (Ts td ty):=by
 intro pins s σ H Q I h
 refine Ru PySem.F.slot_dict_getitem.lookup hs (thn (ho pins s σ H _ I h) fun u s1 ⟨x,H1,I1,rx,q1⟩=>thn (hi pins s1 σ H1 _ I1 q1) fun iv s2 ⟨y,H2,I2,ry,a,v,ex,g,q2⟩=>?_)
 subst ex
 obtain rfl:u=Value.ref a:=rx
 exact⟨Ea I2 g,Mb hu I2 g ry fun w' s3 I3 rw'=>⟨v,H2,I3,rw',q2⟩⟩
end
theorem Nt{P:Program}{w:World}{H:Hp}(h:Heap)(hb:sysModules<h.objs.size):ObjOk P w H (h.push { cls:=.type "dict",data:=.dict #[] }) h.objs.size (.dK []) :=
 ⟨Nat.zero_le _,beq_eq_false_iff_ne.mpr (Ne.symm (Nat.ne_of_lt hb)),[],.nil,Heap.DictOf.new h⟩
noncomputable def IsD(H:Hp)(a:Addr):Prop:=(∃kvs,Rd H a (.dK kvs))\/∃kvs,Rd H a (.dT kvs)
theorem Vo{X:Cx}{pins:List (Addr×Obj)}{σ:St}{H:Hp}{s:Shared}{a:Addr}(I:Inv X pins σ H s)(d:IsD H a) :
  s.TypeIs (.ref a) "dict"/\(∀b,Value.ref a = .ref b->∃ob,s.heap.get? b=some ob/\ob.dict=none)/\(a == sysModules)=false:=by
 rcases d with⟨kvs,e⟩ | ⟨kvs,e⟩
 ·obtain⟨_,hd,vs,_,dd⟩:=Nx I.hok e
  refine⟨dd.typeIs,fun b q=>?_,hd⟩
  cases q
  obtain⟨ob,_,_,h1,h2,_⟩:=dd
  exact⟨ob,h1,h2.2.1⟩
 ·obtain⟨_,hd,xs,_,dd⟩:=Rn I.hok e
  refine⟨dd.typeIs,fun b q=>?_,hd⟩
  cases q
  obtain⟨ob,_,_,h1,h2,_⟩:=dd
  exact⟨ob,h1,h2.2.1⟩
end L2
namespace Att
open PySem PySem.W PySem.Calls PyProof.Rows
theorem e9{P:Params}{h:Heap}:∀(ns:List Int) (vs:List Value),WellAll P h vs (ns.map WData.int)->IntsAre vs ns:=by
 intro ns
 induction ns with
 | nil =>
  intro vs w
  rw[List.map_nil]at w
  cases w
  exact .nil
 | cons n ns ih =>
  intro vs w
  rw[List.map_cons]at w
  cases w with
  | cons a b =>
   cases a
   exact .cons _ _ (ih _ b)
theorem Ly{l:OpenLaw}{n:Nat}(hn:l.most=some n){P:Params}{h:Heap}{args:List WData}{vals:List Value}
  (hpre:l.row.toRowW.claim.pre args=true) (hwl:WellAll P h vals args) :
  ∃a vs ns,vals = [Value.ref a]/\args = [WData.list (ns.map WData.int)]/\h.get? a=some { cls:=.type "list",data:=.seq vs.toArray }/\IntsAre vs ns/\ns.length<=n:=by
 have hsh:WShape.hasAll [] args [.list .int]=true:=(pre_splitW hpre).1
 have hc:l.pre.holds [] { args:=args }=true:=(pre_splitW hpre).2
 obtain⟨d,r,rfl,h1,h2⟩:=hasAllW_cons hsh
 obtain rfl:=hasAllW_nil h2
 obtain⟨xs,rfl,h3⟩:=hasW_list h1
 obtain⟨ns,rfl⟩:=items_int h3
 have hlen:ns.length<=n:=by
  unfold OpenLaw.pre at hc
  have h4:(WTm.not (.lt (.lit (.int (n:Int))) (.len (.arg 0)))).holds [] { args:=[.list (ns.map .int)] }=true:=by
   have h4:=(holds_andW hc).1
   rw[hn]at h4
   exact h4
  have h5:=condW_of h4 (w_not (w_lt w_lit (w_len_list (w_arg rfl))))
  rw[List.length_map]at h5
  refine Nat.le_of_not_lt fun q=>?_
  have q':(n:Int) <((ns.length:Nat):Int):=by omega
  first
   | (rw[decide_eq_true q']at h5;exact absurd h5 (by decide))
   | (simp at h5;omega)
 cases hwl with
 | cons w1 w2 =>
  cases w2
  cases w1 with
  | list ho hall=>exact⟨_,_,ns,rfl,rfl,ho,e9 ns _ hall,hlen⟩
theorem Ka(l:OpenLaw)(args:List WData):l.row.toRowW.claim.post args (.bool true) args=true :=
 postW_of (r:=l.row.toRowW) (X:=(true == true))
  (show WShape.has [] (.bool true) .bool=true by first | rfl | decide | simp[WShape.has,WShape.arms,WShape.armsAll])
  (show(WTm.eq .res (.lit (.bool true))).value [] { args:=args,res:=some (.bool true),after:=args }=some (.bool (true == true))from w_eq_bool (w_res rfl) w_lit) rfl
theorem attach_call{l:OpenLaw}{n:Nat}{q:Program}{loose:List Str}{XP:(Str->Option Value)->Heap->Prop}{YP:World->Heap->Prop}{d:DefRec}
  (hn:l.most=some n) (hdf:d.params.defaults = [])
  (call:∀(w:World) (s₀ s₁:Shared) (mg mb:Str->Option Value) (fa:Addr) (o:Obj) (pm cd doc:Value) (a:Addr) (vs:List Value) (ns:List Int),
   Ground q loose [] XP w s₀ mg mb s₁.heap->YP w s₁.heap ->
   s₁.heap.get? fa=some o->o.data = .func (docDef d.name d.params d.body d.scope pm cd doc)->s₁.heap.CodeRec cd d.name->mg d.name=some (.ref fa) ->
   s₁.heap.get? a=some { cls:=.type "list",data:=.seq vs.toArray }->IntsAre vs ns->ns.length<=n->s₁.gens = #[] ->
   codeAny (model l.prog w) callerA (.call (.ref fa) ⟨[.ref a],[]⟩) (fun r s'=>r = .ok (.ret (.bool true))/\OldK s₁.heap s'.heap/\s'.os=s₁.os/\AllBare s'.gens) s₁) :
  WalkO q loose XP YP l.row.toRowW d [] (fun f vs=>PySem.call f vs):=by
 intro w s₀ s₁ mg mb G Y fa o pm cd doc dV kV ho hd hcd hD hmg hg args vals as hpre hlay hrd hwl hlo
 obtain rfl:dV = .none:=Dflts.none hD hdf
 obtain rfl:kV = .none:=Dflts.noKw hD
 obtain⟨a,vs,ns,rfl,rfl,hobj,hints,hlen⟩:=Ly hn hpre hwl
 refine enter_call (codeAny_mono (call w s₀ s₁ mg mb fa o pm cd doc a vs ns G Y ho (fd_plain hd) hcd hmg hobj hints hlen hg) fun r s' hq=>?_)
 obtain⟨rfl,h2,h3,h4⟩:=hq
 exact⟨.inl ⟨.bool true,.bool true,[],rfl,fun _=>rfl,.bool true,Ka l _,fun _=>⟨List.Pairwise.nil,fun _ hm=>(nomatch hm)⟩⟩,h2,h3,h4⟩
end Att
namespace L2
open PySem PySem.Spec PyProof.Rows
theorem Dd:∀{vs:List Value} {ns:List Int},IntsAre vs ns->Vals (ns.map V.int) vs
 | _,_,.nil=>.nil
 | _,_,.cons n t h=>.cons ⟨t,rfl⟩ (Dd h)
noncomputable def Wr(H:Hp):Prop:=∀b,H b=none\/∃o xs,H b=some (.frz o (.lst xs))
theorem Pi{P:Program}{w:World}{K:PySem.W.Frag}{mg mb:Str->Option Value}{CX:CXT}{k:Nat}{fa a:Addr}{fd:FuncData}{x:Str}{sp:Sp}{s₁:Shared}{vs:List Value}{ns:List Int}
  (KX:K.In s₁.heap) (hns:s₁.heap.Ns mainGlobals mg) (hb:s₁.heap.Ns builtinsNs mb) (hbb:∀x:Str,x≠ "__name__"->mb x=bootBuiltins x) (hlim:s₁.heap.NoLimit) (hg:s₁.gens = #[])
  (ha:s₁.heap.get? a=some { cls:=.type "list",data:=.seq vs.toArray }) (hi:IntsAre vs ns) (hl:ns.length<=sizeLine) (hr:Room k callerA)
  (F:∀base:Heap,K.In base->base.Ns mainGlobals mg->FnOk P w K mg base CX k fa fd [x] sp) (hbind:∀(s:Shared) (u:Value),BindsTo s fd ⟨[u],[]⟩ [(x,u)])
  (hsp:∀H:Hp,Wr H->SqL K H a (ns.map V.int)->sp [.ref a] H (fun v _=>v = .bl true) fun _ _ _=>False)
  (hCX:∀H e s',CX [] H s₁ (fun _ _ _=>False) e s'->False) :
  codeAny (model P w) callerA (.call (.ref fa) ⟨[.ref a],[]⟩) (fun r s'=>r = .ok (.ret (.bool true))/\OldK s₁.heap s'.heap/\s'.os=s₁.os/\AllBare s'.gens) s₁:=by
 have rv:=Dd hi
 have lenV:=hi.length
 have core:∀H:Hp,Wr H->SqL K H a (ns.map V.int)->HOk P w H s₁.heap->(∀b,H b≠none->b=a)->(H a≠none->K.lookup a=none) ->
   codeAny (model P w) callerA (.call (.ref fa) ⟨[.ref a],[]⟩) (fun r s'=>r = .ok (.ret (.bool true))/\OldK s₁.heap s'.heap/\s'.os=s₁.os/\AllBare s'.gens) s₁:=by
  intro H hO hS hok hA hK
  have base_of:∀{b:Addr} {o:Obj},s₁.heap.get? b=some o->H b=none->(Nm s₁.heap H).get? b=some o:=fun e n=>Od e n
  have noA:∀{b:Addr} {o:Obj} {es:Array DictEntry} {ep:Nat},s₁.heap.get? b=some o->o.data = .dict es ep->H b=none:=fun{b o es ep} e d=>by
   cases q:H b with
   | none=>rfl
   | some u =>
    have e':b=a:=hA b (by rw[q];simp)
    subst e'
    rw[ha]at e;cases e
    have d':Data.seq vs.toArray _=Data.dict es ep:=d
    cases d'
  have nsK:∀{b:Addr} {m:Str->Option Value},s₁.heap.Ns b m->(Nm s₁.heap H).Ns b m:=fun{b m} ⟨o,es,ep,e,d,r⟩=>⟨o,es,ep,base_of e (noA e d),d,r⟩
  have hKb:K.In (Nm s₁.heap H):=fun b o e=>base_of (KX b o e) (by
   cases q:H b with
   | none=>rfl
   | some u =>
    have e':b=a:=hA b (by rw[q];simp)
    subst e'
    rw[hK (by rw[q];simp)]at e;cases e)
  have hM:Mod K mg (Nm s₁.heap H):=⟨hKb,nsK hns,⟨mb,nsK hb,hbb⟩,let⟨mc,h1,h2⟩:=hlim;⟨mc,nsK h1,h2⟩⟩
  have e0:Env0 P w K mg (Nm s₁.heap H) callerA [] s₁ H:=⟨rfl,hM,fun b o e=>Rs e,Nat.le_of_eq (Kb _ _),trivial,fun b hb=>absurd (show b∈([]:List Addr)from hb) (by simp),hok,.of_eq hg⟩
  refine codeAny_mono ((F _ hKb (nsK hns)).run callerA [] s₁ H ⟨[.ref a],[]⟩ [.ref a] [.ref a] _ _ hr e0 (hbind s₁ (.ref a)) (.cons rfl .nil) (hsp H hO hS)) fun r s' h=>?_
  cases r with
  | error e=>exact(hCX H e s' h).elim
  | ok fl =>
   cases fl with
   | next=>exact False.elim h
   | brk=>exact False.elim h
   | cont=>exact False.elim h
   | ret u =>
    obtain⟨v,H',os,bare,un,hok',r',q⟩:=h
    have q':v = .bl true:=q
    subst q'
    obtain rfl:u=Value.bool true:=r'
    refine⟨rfl,OldK.of_keep fun b o e=>?_,os,bare⟩
    cases q:H b with
    | none=>exact un.keep b o e q (by intro z;exact absurd (show b∈([]:List Addr)from z) (by simp)) (by simp)
    | some u =>
     rcases hO b with z | ⟨ob,xs,z⟩
     ·rw[q]at z;cases z
     ·have z2:=un.frzs b ob _ z
      obtain⟨e1,_⟩:=hok b _ z
      obtain⟨e2,_⟩:=hok' b _ z2
      rw[e]at e1;cases e1
      exact e2
 cases hk:K.lookup a with
 | some o =>
  have e:=KX a o hk
  rw[ha]at e
  cases e
  refine core (fun _=>none) (fun _=>.inl rfl) (.inr ⟨_,vs.toArray,_,hk,rfl,rfl,rfl,by rw[List.size_toArray,lenV];exact hl,by simpa using rv⟩) (fun b u z=>by have z':(none:Option HO)=some u:=z;cases z') (fun b z=>absurd rfl z) fun z=>absurd rfl z
 | none =>
  refine core (fun b=>if b=a then some (.frz { cls:=.type "list",data:=.seq vs.toArray } (.lst (ns.map V.int)))else none) (fun b=>?_) (.inl (.inr ⟨{ cls:=.type "list",data:=.seq vs.toArray },if_pos rfl⟩)) (fun b u z=>?_) (fun b z=>?_) fun _=>hk
  ·by_cases hb:b=a
   ·exact .inr ⟨_,_,if_pos hb⟩
   ·exact .inl (if_neg hb)
  ·by_cases hb:b=a
   ·have z':=(if_pos hb).symm.trans z
    cases z'
    subst hb
    exact⟨ha,by rw[List.length_map];exact hl,vs,_,rv,ha⟩
   ·have z':=(if_neg hb).symm.trans z
    cases z'
  ·by_cases hb:b=a
   ·exact hb
   ·exact absurd (if_neg hb) z
theorem walk_of{l:PySem.W.OpenLaw}{n k:Nat}{q:Program}{loose:List Str}{XP:(Str->Option Value)->Heap->Prop}{YP:World->Heap->Prop}{d:DefRec}{K:Params->PySem.W.Frag}{CX:World->CXT}{sp:World->Sp}{x:Str}
  (hn:l.most=some n) (hn2:n<=sizeLine) (hdf:d.params.defaults = []) (hr:Room k callerA)
  (hY:∀(w:World) (h:Heap),YP w h->(K w.params).In h)
  (F:∀(w:World) (mg:Str->Option Value) (fa:Addr) (h:Heap),(K w.params).In h->h.Ns mainGlobals mg->mg d.name=some (.ref fa) ->
   ∃fd:FuncData,(∀(s:Shared) (u:Value),BindsTo s fd ⟨[u],[]⟩ [(x,u)]) /\
    ∀base:Heap,(K w.params).In base->base.Ns mainGlobals mg->FnOk l.prog w (K w.params) mg base (CX w) k fa fd [x] (sp w))
  (hsp:∀(w:World) (H:Hp) (a:Addr) (ns:List Int),ns.length<=n->Wr H->SqL (K w.params) H a (ns.map V.int)->sp w [.ref a] H (fun v _=>v = .bl true) fun _ _ _=>False)
  (hCX:∀(w:World) (H:Hp) (s:Shared) (e:Value) (s':Shared),CX w [] H s (fun _ _ _=>False) e s'->False) :
  PySem.W.WalkO q loose XP YP l.row.toRowW d [] (fun f vs=>PySem.call f vs):=by
 refine Att.attach_call hn hdf fun w s₀ s₁ mg mb fa o pm cd doc a vs ns G Y ho hd hcd hmg hobj hints hlen hg=>?_
 have KX:=hY w _ Y
 obtain⟨fd,hb,hF⟩:=F w mg fa _ KX G.T.g hmg
 exact Pi KX G.T.g G.T.b G.T.builtins G.T.nolimit hg hobj hints (Nat.le_trans hlen hn2) hr hF hb (fun H hO hS=>hsp w H a ns hlen hO hS) fun H e s'=>hCX w H s₁ e s'
noncomputable def E6(s:Stmt)(j:Nat):Stmt:=match s with
 | .ClassDef _ _ _ body _ _ _ _ _ _ _=>body.getD j (.Pass ⟨0,0,0,0⟩)
 | _=>.Pass ⟨0,0,0,0⟩
noncomputable def K9(s:Stmt):Arguments:=match s with
 | .FunctionDef _ a _ _ _ _ _ _ _ _=>a
 | _=>{ posonlyargs:=[],args:=[],vararg:=none,kwonlyargs:=[],kw_defaults:=[],kwarg:=none,defaults:=[] }
noncomputable def G8(s:Stmt):List Stmt:=match s with
 | .FunctionDef _ _ b _ _ _ _ _ _ _=>b
 | _=>[]
noncomputable def B4(s:Stmt):Scope:=match s with
 | .FunctionDef _ _ _ _ _ _ sc _ _ _=>sc
 | _=>{ kind:=.function,names:=[],isGenerator:=false,isCoroutine:=false }
noncomputable abbrev CX0:CXT:=fun _ _ _ _ _ _=>False
noncomputable abbrev E0:XK:=fun _ _ _=>False
theorem K5{X:Cx}:U4 CX0 X E0:=fun _ _ _ _ _ _ _ h=>h.elim
structure Fun(K:PySem.W.Frag)(x qual:Str)(st:Stmt)(f:Addr)(fd:FuncData):Prop where
 ex:∃(oc:Value) (od:Option Addr) (kV doc pm:Value) (an:Option Addr) (cdv ct:Value) (osl:Array (Option Value)),
  fd=PySem.W.fnOf x qual (K9 st) (G8 st) (B4 st) .none kV doc pm an cdv ct/\K.lookup f=some ⟨oc,od,.func fd,osl⟩/\PySem.W.codeIn K cdv qual=true
 kp:PySem.W.keepIn K (.ref f)=true
section
variable{P:Program}{w:World}{K:PySem.W.Frag}{mg:Str->Option Value}{base:Heap}
theorem Fun.ok{x qual:Str}{st:Stmt}{f:Addr}{fd:FuncData}{N ps:List Str}{k:Nat}{sp:Sp}(F:Fun K x qual st f fd)(S:FnScope N ps (B4 st))(len:∀vs H Q E,sp vs H Q E->vs.length=ps.length)
  (hbody:∀(cdv:Value) (A:Around) (outer:List Env) (s:Shared) (H:Hp) (vs:List V) (Q:VK) (E:XK),Room k (A.deeper (envOfC qual (B4 st) s.heap.objs.size f cdv))->sp vs H Q E ->
   ∃t,PSs (Pj CX0 P w K mg base N qual (B4 st) f cdv A outer s H E).nox (G8 st) t/\t { nx:=fun _ H'=>Q .non H',rt:=Q } (Bt N vs) H):FnOk P w K mg base CX0 (k+1) f fd ps sp:=by
 obtain⟨oc,od,kV,doc,pm,an,cdv,ct,osl,rfl,lk,hcd⟩:=F.ex
 refine Tp lk hcd S len fun A outer s H vs Q E hr hsp=>?_
 obtain⟨t,h,q⟩:=hbody cdv A outer s H vs Q E hr hsp
 exact⟨t,h.nox,q⟩
theorem Fun.binds{x qual:Str}{st:Stmt}{f:Addr}{fd:FuncData}{ps:List Str}(F:Fun K x qual st f fd)
  (h:∀(kV doc pm:Value) (an:Option Addr) (cdv ct:Value) (us:List Value),us.length=ps.length->bindArgs (PySem.W.fnOf x qual (K9 st) (G8 st) (B4 st) .none kV doc pm an cdv ct) ⟨us,[]⟩=pure (ps.zip us)):Binds K fd ps []:=by
 obtain⟨oc,od,kV,doc,pm,an,cdv,ct,osl,rfl,lk,hcd⟩:=F.ex
 exact .all (h kV doc pm an cdv ct)
theorem fun_mk{x qual:Str}{st:Stmt}{f:Addr}{oc:Value}{od an:Option Addr}{osl:Array (Option Value)}{kV doc pm cdv ct:Value}(l:K.lookup f=some ⟨oc,od,.func (PySem.W.fnOf x qual (K9 st) (G8 st) (B4 st) .none kV doc pm an cdv ct),osl⟩)
  (c:PySem.W.codeIn K cdv qual=true) (k:PySem.W.keepIn K (.ref f)=true):Fun K x qual st f (PySem.W.fnOf x qual (K9 st) (G8 st) (B4 st) .none kV doc pm an cdv ct):=⟨⟨oc,od,kV,doc,pm,an,cdv,ct,osl,rfl,l,c⟩,k⟩
end
theorem Ba{A:Around}{k:Nat}(hr:Room k A):A.units+1<cLine:=Nat.lt_of_le_of_lt (Nat.add_le_add_left (by decide:1<=64) _) hr.units
section
variable{X:Cx}
theorem pv(i:Nat){x:Str}{pos:Pos}(hN:X.N[i]?=some x:=by rfl)(hv:Vis X.env.scope x:=by first | exact Or.inl rfl | exact Or.inr (Or.inl rfl) | exact Or.inr (Or.inr rfl))(hd:(x ==("__debug__":Str))=false:=by decide)
  (hcd:(x ==("__classdict__":Str))=false:=by decide):PE X (.Name x pos) (Rf i):=Pz hN hv hd hcd
end
theorem Az{A B:Prop}(h:B):if false=true then A else B:=by
 rw[if_neg Bool.false_ne_true]
 exact h
theorem Qg{A B:Prop}(h:A):if true=true then A else B:=by
 rw[if_pos rfl]
 exact h
theorem V8{c A B:Prop}[Decidable c](h1:c->A)(h2:¬c->B):if c then A else B:=by
 by_cases h:c
 ·rw[if_pos h]
  exact h1 h
 ·rw[if_neg h]
  exact h2 h
noncomputable def Same(H H':Hp):Prop:=∀b o,H b=some o->H' b=some o
theorem Same.refl(H:Hp):Same H H:=fun _ _ h=>h
theorem Same.trans{H H1 H2:Hp}(a:Same H H1)(b:Same H1 H2):Same H H2:=fun c o h=>b c o (a c o h)
theorem Same.free{H H':Hp}(e:Same H H'){l:Addr}(h:H' l=Option.none):H l=Option.none:=by
 cases q:H l with
 | none=>rfl
 | some o =>
  rw[e l o q]at h
  cases h
noncomputable def cxC(X:Cx)(scope:Scope)(cl:List (Str×Addr))(N':List Str)(pins:List (Addr×Obj))(ex:List Addr)(s3:Shared)(H3:Hp):Cx where
 prog:=X.prog
 w:=X.w
 K:=X.K
 mg:=X.mg
 base:=X.base
 A:=X.A
 N:=N'
 s₀:=s3
 H₀:=H3
 env:=compEnvC scope cl s3.heap.objs.size X.env
 outer:=X.stack
 stack:=X.stack
 ex:=ex
 fn:=fun _=>false
 calm:=X.calm
 pn:=X.pn++pins
 xe:=fun _ _=>False
noncomputable def Caps(X:Cx)(scope:Scope)(cl:List (Str×Addr)):List Str->List (Option Nat)->Prop
 | [],[]=>True
 | _::N,none::c=>Caps X scope cl N c
 | x::N,some j::c=>(X.N[j]?=some x/\X.env.scope.names.lookup x=some .cell/\(relabel scope X.env).names.lookup x=some .cell/\cl.lookup x=X.env.cells.lookup x)/\Caps X scope cl N c
 | _,_=>False
noncomputable def ClIn(X:Cx):List (Str×Addr)->Prop
 | []=>True
 | p::r=>X.env.cells.lookup p.1=some p.2/\ClIn X r
structure CScope(X:Cx)(scope:Scope)(cl:List (Str×Addr))(N':List Str)(cap:List (Option Nat)):Prop where
 kind:scope.kind = .function
 nocell:∀y∈scope.names,y.2≠ .cell
 loc:∀y∈scope.names,y.2 = .local->scope.names.lookup y.1=some .local
 clos:closureFor scope X.env=pure cl
 cin:ClIn X cl
 has:((relabel scope X.env).names.all fun y=>!(y.2 == .cell||y.2 == .free)||(cl.lookup y.1).isSome)=true
 caps:Caps X scope cl N' cap
noncomputable def Je(cap:List (Option Nat))(σ:St):St:=cap.map fun o=>o.bind fun j=>(σ[j]?).join
theorem ClIn.get{X:Cx}:∀{cl:List (Str×Addr)} {x:Str} {c:Addr},ClIn X cl->cl.lookup x=some c->X.env.cells.lookup x=some c
 | [],_,_,_,h=>by simp at h
 | (y,d)::r,x,c,⟨h1,h2⟩,h=>by
  rw[List.lookup_cons]at h
  cases e:x == y with
  | true =>
   rw[e]at h
   cases h
   rw[beq_iff_eq.mp e]
   exact h1
  | false =>
   rw[e]at h
   exact ClIn.get h2 h
theorem Caps.len{X:Cx}{scope:Scope}{cl:List (Str×Addr)}:∀{N:List Str} {cap:List (Option Nat)},Caps X scope cl N cap->cap.length=N.length
 | [],[],_=>rfl
 | _::N,none::c,h=>by rw[List.length_cons,List.length_cons,Caps.len (N:=N) (cap:=c) h]
 | _::N,some j::c,h=>by rw[List.length_cons,List.length_cons,Caps.len h.2]
 | [],_::_,h=>h.elim
 | _::_,[],h=>h.elim
theorem Caps.get{X:Cx}{scope:Scope}{cl:List (Str×Addr)}{j:Nat}{x:Str}:∀{N:List Str} {cap:List (Option Nat)} {i:Nat},Caps X scope cl N cap->N[i]?=some x->cap[i]?=some (some j) ->
  X.N[j]?=some x/\X.env.scope.names.lookup x=some .cell/\(relabel scope X.env).names.lookup x=some .cell/\cl.lookup x=X.env.cells.lookup x
 | [],_,_,_,h,_=>by simp at h
 | _::_,[],_,_,_,h=>by simp at h
 | y::N,none::c,0,_,_,h=>by simp at h
 | y::N,none::c,i+1,h,h1,h2=>Caps.get (N:=N) (cap:=c) (i:=i) h (by simpa using h1) (by simpa using h2)
 | y::N,some k::c,0,h,h1,h2=>by
  simp at h1 h2
  subst h1;subst h2
  exact h.1
 | y::N,some k::c,i+1,h,h1,h2=>Caps.get (N:=N) (cap:=c) (i:=i) h.2 (by simpa using h1) (by simpa using h2)
section
variable{X:Cx}{scope:Scope}{cl:List (Str×Addr)}{N':List Str}{cap:List (Option Nat)}{pins:List (Addr×Obj)}{σ:St}{H3:Hp}{s3:Shared}{ex:List Addr}
theorem W0{p:NameKind->Bool}:∀{names:List (Str×NameKind)} {q:Str->NameKind->Bool} {x:Str} {k:NameKind},(names.all fun y=>q y.1 y.2)=true->names.lookup x=some k->q x k=true
 | [],_,_,_,_,h=>by simp at h
 | (y,d)::r,q,x,k,ha,h=>by
  rw[List.all_cons,Bool.and_eq_true]at ha
  rw[List.lookup_cons]at h
  cases e:x == y with
  | true =>
   rw[e]at h
   cases h
   rw[beq_iff_eq.mp e]
   exact ha.1
  | false =>
   rw[e]at h
   exact W0 (p:=p) (names:=r) (q:=q) ha.2 h
theorem Inv.block(I:Inv X pins σ H3 s3)(S:CScope X scope cl N' cap)(hc:X.calm=true)(hex:∀b∈ex,u9 X pins H3 b/\∃o,s3.heap.get? b=some o){h1:Heap}{tk:Nat}
  (hns:h1.Ns s3.heap.objs.size (fun _=>none)) (hk:∀b o,s3.heap.get? b=some o->h1.get? b=some o) :
  Inv (cxC X scope cl N' pins ex s3 H3) [] (Je cap σ) H3 { s3 with heap:=h1,toks:=tk }:=by
 have lt3:∀b o,s3.heap.get? b=some o->b≠s3.heap.objs.size:=fun b o e=>Nat.ne_of_lt (Heap.lt_size e)
 have hcell:∀x c,cl.lookup x=some c->∃v,s3.heap.IsCell c v:=fun x c e=>I.cell x c (S.cin.get e)
 have hfree:H3 s3.heap.objs.size=none:=I.hok.fresh (Nat.le_refl _)
 refine⟨⟨I.ok.mod,?_,I.ok.glob,I.ok.blt,Nat.le_refl _,fun x y c e1 e2=>I.ok.inj x y c (S.cin.get e1) (S.cin.get e2),fun x hx=>?_,fun x c h _=>absurd h Bool.false_ne_true,I.ok.hd,I.ok.frames,.inl rfl,fun b hb=>?_,I.bs,Nat.le_trans I.ok.bsz I.sz,fun b o e hb=>?_,fun b hb=>?_,I.stack,I.stkFree⟩,
  rfl,I.bare,Un.kept hk,⟨_,hns,fun i x v e1 e2 e3=>?_⟩,fun x c e=>?_,hfree,fun x c e=>I.freeC x c (S.cin.get e),fun p hp=>?_,I.hok.kept hk,?_⟩
 ·exact S.kind
 ·have q:∀k,(relabel scope X.env).names.lookup x=some k->(!(k == .cell||k == .free)||(cl.lookup x).isSome)=true:=fun k e=>W0 (p:=fun _=>true) (q:=fun a k=>!(k == .cell||k == .free)||(cl.lookup a).isSome) S.has e
  have hx':(relabel scope X.env).names.lookup x=some .cell\/(relabel scope X.env).names.lookup x=some .free:=hx
  have:(cl.lookup x).isSome=true:=by
   rcases hx' with e | e
   ·exact q _ e
   ·exact q _ e
  exact Option.isSome_iff_exists.mp this
 ·obtain⟨⟨_,_,_,_,f4,_⟩,o,e⟩:=hex b hb
  exact⟨lt3 b o e,fun x c ec=>f4 x c (S.cin.get ec)⟩
 ·obtain⟨⟨f0,f1,f2,f3,_⟩,_⟩:=hex b hb
  rcases f3 with f3 | f3
  ·exact I.ok.noex b o e f3
  ·have:=(I.ok.bs b o e).1
   exact absurd (Nat.lt_of_lt_of_le (Heap.lt_size this) f3) (Nat.lt_irrefl _)
 ·intro hf
  obtain⟨⟨_,f1,f2,_⟩,_⟩:=hex b hb
  rcases List.mem_cons.mp (I.stkSub b hf)with z | z
  ·exact f1 z
  ·exact f2 z
 ·unfold Je at e2
  rw[List.getElem?_map]at e2
  cases ec:cap[i]? with
  | none=>rw[ec]at e2;cases e2
  | some o =>
   rw[ec]at e2
   cases o with
   | none=>cases e2
   | some j =>
    have e2':(σ[j]?).join=some v:=Option.some.inj e2
    obtain⟨c1,c2,c3,c4⟩:=S.caps.get e1 ec
    have ej:σ[j]?=some (some v):=by
     cases ej:σ[j]? with
     | none=>rw[ej]at e2';cases e2'
     | some z=>rw[ej]at e2';cases z with
      | none=>cases e2'
      | some z=>cases e2';rfl
    obtain⟨m,hn,hl⟩:=I.loc
    obtain⟨u,r,l⟩:=hl j x v c1 ej (.inr (.inl c2))
    refine⟨u,r,?_⟩
    rcases l with⟨k,_⟩ | ⟨_,c,hc',hcell'⟩
    ·have:X.env.scope.names.lookup x=some .local:=k
     rw[c2]at this;cases this
    ·exact .inr ⟨.inl c3,c,c4.trans hc',let⟨o,ho,hd⟩:=hcell';⟨o,hk _ _ ho,hd⟩⟩
 ·obtain⟨v,o,ho,hd⟩:=hcell x c e
  exact⟨v,o,hk _ _ ho,hd⟩
 ·have hp':p∈X.pn++pins:=by simpa [cxC] using hp
  obtain⟨e,n,ne,nf,d⟩:=I.pin p hp'
  refine⟨hk _ _ e,n,lt3 _ _ e,fun hf=>?_,d⟩
  rcases List.mem_cons.mp (I.stkSub p.1 hf)with z | z
  ·exact ne z
  ·exact nf z
 ·unfold Je
  rw[List.length_map]
  exact S.caps.len
theorem Inv.unblock{σ':St}{H':Hp}{s':Shared}{h':Heap}(I:Inv X pins σ H3 s3)(hex:∀b∈ex,u9 X pins H3 b)(J:Inv (cxC X scope cl N' pins ex s3 H3) [] σ' H' s')(hb:Heap.SameBut s3.heap.objs.size s'.heap h') :
  Inv X pins σ H' { s' with heap:=h' }:=by
 have hfr:H' s3.heap.objs.size=none:=J.free
 refine I.call' (ch:=ex) J.os ⟨fun b o e n h1 h2=>?_,fun b o e n h1 h2=>?_,fun b o e n h2=>?_,fun b o e h2=>?_,J.base.tups,J.base.frzs,J.base.tbls⟩ (fun b ob e=>?_) J.bare fun b hbx=>?_
 ·exact(hb.2 b (Nat.ne_of_lt (Heap.lt_size e))).trans (J.base.keep b o e n h1 h2)
 ·obtain⟨sl,q⟩:=J.base.slot b o e n h1 h2
  exact⟨sl,(hb.2 b (Nat.ne_of_lt (Heap.lt_size e))).trans q⟩
 ·exact J.base.free b o e n h2
 ·obtain⟨o',q⟩:=J.base.there b o e h2
  exact⟨o',(hb.2 b (Nat.ne_of_lt (Heap.lt_size e))).trans q⟩
 ·refine(J.hok b ob e).stay (fun c w' hc q=>(hb.2 c ?_).trans q) (fun _ q=>q) fun _ _ q=>q
  rintro rfl
  rcases hc with z | z
  ·rw[<-z,hfr]at e;cases e
  ·rw[hfr]at z;cases z
 ·obtain⟨_,f1,_,f3,f4,f5⟩:=hex b hbx
  exact⟨f3,f1,f4,f5⟩
end
noncomputable def Fy(e:Expr)(d:Nat)(iter tg:Expr)(ifs:List Expr)(emit:Sem Fin->Sem Fin)(it acc:Value)(env:Env):Sem Fin:=do
 standAt iter.pos
 match <-pyNext it with
 | none=>pure (.done .next)
 | some v =>
  letOwnedTupleGo tg it v
  assign tg env v
  let mut ok:=true
  for c in ifs do
   if ok then ok <-isTrue c env (eval c env)
  if ok then emit (again (.compLoop e d it acc env))else again (.compLoop e d it acc env)
noncomputable def emL(elt:Expr)(acc:Value)(env:Env)(k:Sem Fin):Sem Fin:=(do let _ <-call (.builtin "list.append") [acc,<-eval elt env]:Sem Unit) >>= fun _=>k
noncomputable def emD(a b:Expr)(D:Addr)(env:Env)(k:Sem Fin):Sem Fin:=(do
   let kv <-eval a env
   let vv <-holding [kv] (eval b env)
   standAt { a.pos with endLine:=b.pos.endLine,endCol:=b.pos.endCol }
   holding [kv,vv] (dictSet D kv vv):Sem Unit) >>= fun _=>k
theorem W7(elt tg iter:Expr)(ifs:List Expr)(scope:Scope)(pos:Pos)(it acc:Value)(env:Env) :
  compTurn (.ListComp elt [⟨tg,iter,ifs,0⟩] scope pos) 0 it acc env=Fy (.ListComp elt [⟨tg,iter,ifs,0⟩] scope pos) 0 iter tg ifs (emL elt acc env) it acc env:=rfl
theorem Iv(k v tg iter:Expr)(ifs:List Expr)(scope:Scope)(pos:Pos)(it:Value)(D:Addr)(env:Env) :
  compTurn (.DictComp k v [⟨tg,iter,ifs,0⟩] scope pos) 0 it (.ref D) env=Fy (.DictComp k v [⟨tg,iter,ifs,0⟩] scope pos) 0 iter tg ifs (emD k v D env) it (.ref D) env:=rfl
noncomputable abbrev TEm:=St->Hp->(St->Hp->Prop)->Prop
noncomputable def PEm(X:Cx)(emit:Sem Fin->Sem Fin)(t:TEm):Prop :=
 ∀(pins:List (Addr×Obj)) (s:Shared) (σ:St) (H:Hp) (Q:St->Hp->Prop) (k:Sem Fin) (F:Fin->Shared->Prop) (E:Value->Shared->Prop),Inv X pins σ H s->t σ H Q ->
  (∀s' σ' H',Inv X pins σ' H' s'->Q σ' H'->wpAny (model X.prog X.w) X.A k F E s')->wpAny (model X.prog X.w) X.A (emit k) F E s
noncomputable def PTs(X:Cx)(ifs:List Expr)(t:TT):Prop :=
 ∀(pins:List (Addr×Obj)) (s:Shared) (σ:St) (H:Hp) (Q:Bool->Hp->Prop),Inv X pins σ H s->t σ H Q ->
  wpAny (model X.prog X.w) X.A (forIn ifs true fun c r=>if r=true then do let ok <-isTrue c X.env (eval c X.env);pure (ForInStep.yield ok)else pure (ForInStep.yield r)) (TP X pins σ Q) X.xe s
noncomputable def Ep:TT:=fun _ H Q=>Q true H
theorem E5{X:Cx}:PTs X [] Ep:=fun _ _ _ H _ I h=>wpAny_tests_nil ⟨H,I,h⟩
theorem T0{X:Cx}{c:Expr}{t:TT}(h:PT X c t):PTs X [c] t:=fun pins s σ H Q I q=>wpAny_tests_one (h pins s σ H Q I q)
noncomputable def Ib(g:TG)(tc:TT)(em:TEm)(J:It)(σ:St)(H:Hp)(Q:St->Hp->Prop):Prop :=
 ∃W:Nat->Nat->St->Hp->Prop,(∃m,W 0 m σ H)/\∀i m σ H,W i m σ H->(J.stop i H/\Q σ H)\/(J.go i H/\∀x H',J.yld i H x H'->g x σ H' fun σ2 H2=>tc σ2 H2 fun b H3 =>
  if b=true then em σ2 H3 fun σ3 H4=>∃m',m' < m/\W (i+1) m' σ3 H4 else ∃m',m' < m/\W (i+1) m' σ2 H3)
section
variable{X:Cx}{e tg iter:Expr}{d:Nat}{ifs:List Expr}{emit:Sem Fin->Sem Fin}{it:Addr}{acc:Value}{g:TG}{tc:TT}{em:TEm}{J:It}{fp:List Addr}{tn:Nat->Heap->Prop}{R:Result->Shared->Prop}
theorem V7(hun:X.A.under (.compLoop e d (.ref it) acc X.env)=X.A)(hden:(model X.prog X.w).den (.compLoop e d (.ref it) acc X.env) =(compTurn e d (.ref it) acc X.env).onRaise (fun x=>do noteFrame x X.env;theTreesLotGoes x))(hc:X.calm=true)(hxe:X.xe=fun _ _=>False)(hct:compTurn e d (.ref it) acc X.env=Fy e d iter tg ifs emit (.ref it) acc X.env)(hg:PG X tg g)(ht:PTs X ifs tc)(hem:PEm X emit em)
  (T:Turn X.prog X.w X.K tg J fp it tn) {pins:List (Addr×Obj)} {s:Shared} {σ:St} {H:Hp} {Q:St->Hp->Prop} (I:Inv X pins σ H s) (st:tn 0 s.heap) (hf:∀b∈fp,u9 X pins H b) (h:Ib g tc em J σ H Q)
  (hR:∀s' σ' H',Inv X pins σ' H' s'->Q σ' H'->R (.ok .next) s'):codeAny (model X.prog X.w) X.A (.compLoop e d (.ref it) acc X.env) R s:=by
 obtain⟨W,⟨m0,w0⟩,turn⟩:=h
 have stat:∀{H':Hp},(∀b∈fp,H' b=none)->∀b∈fp,u9 X pins H' b:=fun hn b hb=>⟨hn b hb,(hf b hb).2⟩
 have no:∀{α:Type} {m:Sem α} {P:α->Shared->Prop} {E:Value->Shared->Prop} {s:Shared},wpAny (model X.prog X.w) X.A m P X.xe s->wpAny (model X.prog X.w) X.A m P E s:=fun q=>by
  rw[hxe]at q
  exact wpAny_mono q (fun _ _ z=>z) fun _ _ z=>z.elim
 refine codeAny_loop rfl (fun n s'=>∃i σ' H',Inv X pins σ' H' s'/\tn i s'.heap/\(∀b∈fp,H' b=none)/\W i n σ' H') (fun n s3 hI=>?_) m0 ⟨0,σ,H,I,st,fun b hb=>(hf b hb).1,w0⟩
 obtain⟨i,σ3,H3,I3,st3,fr3,w3⟩:=hI
 rw[hun,hden]
 refine wpAny_noted ?_
 rw[hct]
 unfold Fy
 refine wpAny_bind (wpAny_standAt (wpAny_bind ?_))
 rcases turn i n σ3 H3 w3 with⟨stop,qn⟩ | ⟨go,step⟩
 ·refine wpAny_mono (T.done X rfl rfl rfl hc i pins s3 σ3 H3 _ I3 (stat fr3) st3 stop) (fun r s4 ⟨hr,I4⟩=>?_) fun _ _ z=>z
  subst hr
  exact wpAny_pure (hR s4 σ3 H3 I4 qn)
 ·refine wpAny_mono (T.item X rfl rfl rfl hc i pins s3 σ3 H3 _ I3 (stat fr3) st3 go) (fun r s4 ⟨u,hr,h4⟩=>?_) fun _ _ z=>z
  subst hr
  refine wpAny_bind (wpAny_mono h4 (fun _ s5 ⟨x,H5,I5,r5,y5,st5,fr5⟩=>?_) fun _ _ z=>z)
  have I5':=I5.pinned (stat fr5) (T.obj _ _ st5)
  have again:∀{σ7:St} {H7:Hp} {s7:Shared},Inv X (pins++Cq fp s5.heap) σ7 H7 s7->(∃m',m' < n/\W (i+1) m' σ7 H7)->∃m,m<n/\∃i σ' H',Inv X pins σ' H' s7/\tn i s7.heap/\(∀b∈fp,H' b=none)/\W i m σ' H':=fun{σ7 H7 s7} I7 n7=>by
   obtain⟨m',hm,w7⟩:=n7
   refine⟨m',hm,i+1,σ7,H7,I7.unpinned,T.keep _ _ _ st5 fun b hb o e=>(I7.pin (b,o) (List.mem_append_right _ (List.mem_append_right _ (R9 hb e)))).1,fun b hb=>?_,w7⟩
   obtain⟨o,e,d⟩:=T.obj _ _ st5 b hb
   exact(I7.pin (b,o) (List.mem_append_right _ (List.mem_append_right _ (R9 hb e)))).2.1
  refine wpAny_bind (wpAny_mono (no (hg _ s5 σ3 H5 x u _ I5' r5 (step x H5 y5))) (fun _ s6 ⟨σ6,H6,I6,q6⟩=>?_) fun _ _ z=>z)
  refine wpAny_bind (wpAny_mono (no (ht _ s6 σ6 H6 _ I6 q6)) (fun ok s7 ⟨H7,I7,q7⟩=>?_) fun _ _ z=>z)
  cases ok with
  | false=>exact wpAny_pure ⟨rfl,again I7 q7⟩
  | true =>
   exact hem _ s7 σ6 H7 _ _ _ _ I7 q7 fun s8 σ8 H8 I8 q8=>wpAny_pure ⟨rfl,again I8 q8⟩
theorem W9(hun:X.A.under (.compStart e d (.ref it) acc X.env)=X.A)(hden:(model X.prog X.w).den (.compStart e d (.ref it) acc X.env) =(compStart e d (.ref it) acc X.env).onRaise (fun x=>do noteFrame x X.env;standAt theWindowsPlace)){gs:List Comprehension}(hgs:clausesOf e=gs)(hd:gs[d]?=some ⟨tg,iter,ifs,0⟩){s:Shared}(T:Turn X.prog X.w X.K tg J fp it tn)(st:tn 0 s.heap)
  (h:codeAny (model X.prog X.w) X.A (.compLoop e d (.ref it) acc X.env) R s):codeAny (model X.prog X.w) X.A (.compStart e d (.ref it) acc X.env) R s:=by
 refine codeAny_of_tree ?_
 rw[hun,hden]
 refine wpAny_notedAt ?_
 unfold compStart
 rw[hgs,hd]
 show wpAny _ X.A (ask >>= _) _ _ s
 refine wpAny_bind (wpAny_askSetting (wpAny_ite ?_))
 have h1:=T.self X.A 0 s (fun it' s'=>codeAny (model X.prog X.w) X.A (.compLoop e d it' acc X.env) R s') (notedBy (model X.prog X.w) X.A X.env fun x s'=>R (.error x) s') st h
 split
 ·first
   | exact wpAny_bind (wpAny_pure (wpAny_pure (And.intro rfl h)))
   | exact wpAny_pure (And.intro rfl h)
 ·first
   | exact wpAny_bind (wpAny_rule (wpAny_bind (wpAny_standAt (wpAny_bind (wpAny_mono h1 (fun it' s' h'=>wpAny_pure (And.intro rfl h')) fun _ _ x=>x)))))
   | (refine wpAny_bind (wpAny_rule ?_);show wpAny _ _ (standAt iter.pos >>= _) _ _ s;exact wpAny_bind (wpAny_standAt (wpAny_bind (wpAny_mono h1 (fun it' s' h'=>wpAny_pure (And.intro rfl h')) fun _ _ x=>x))))
end
section
variable{X:Cx}{tg iter:Expr}{ifs:List Expr}{g:TG}{tc:TT}{em:TEm}{scope:Scope}{cl:List (Str×Addr)}{N':List Str}{cap:List (Option Nat)}{pos:Pos}{wi:TI}
noncomputable def Em(wi:TI)(o:Addr->HO)(cap:List (Option Nat))(lp:Addr->It->St->Hp->(St->Hp->Prop)->Prop):TE:=fun σ H Q=>wi σ H fun J H1=>∀D,H1 D=none->lp D J (Je cap σ) (upd H1 D (o D)) fun _ H2=>Q (.ref D) H2
theorem Hl{e:Expr}{gs:List Comprehension}{newAcc:Sem Value}{p2:Pos}(hcl:clausesOf e =⟨tg,iter,ifs,0⟩::gs)(o:Addr->HO)(hs:∀x,foldedSetIterable iter X.env x=pure x)(S:CScope X scope cl N' cap)(hc:X.calm=true)(hi:PI X tg iter wi)
  {lp:Addr->It->St->Hp->(St->Hp->Prop)->Prop}
  (hnew:∀(pins:List (Addr×Obj)) (s:Shared) (σ:St) (H:Hp) (Q:Value->Shared->Prop) (E:Value->Shared->Prop),Inv X pins σ H s->(∀s',Inv X pins σ (upd H s.heap.objs.size (o s.heap.objs.size)) s'->(∀b ob,s.heap.get? b=some ob->s'.heap.get? b=some ob)->Q (.ref s.heap.objs.size) s')->wpAny (model X.prog X.w) X.A newAcc Q E s)
  (hlp:∀(pins:List (Addr×Obj)) (ex:List Addr) (s3:Shared) (H3:Hp) (D it:Addr) (fp:List Addr) (tn:Nat->Heap->Prop) (J:It) (σ:St) (s:Shared) (H:Hp) (Q:St->Hp->Prop) (R:Result->Shared->Prop),
   Turn X.prog X.w X.K tg J fp it tn->Inv (cxC X scope cl N' pins ex s3 H3) [] σ H s->tn 0 s.heap->(∀b∈fp,u9 (cxC X scope cl N' pins ex s3 H3) [] H b)->lp D J σ H Q ->
   (∀s' σ' H',Inv (cxC X scope cl N' pins ex s3 H3) [] σ' H' s'->Q σ' H'->R (.ok .next) s') ->
   codeAny (model X.prog X.w) X.A (.compLoop e 0 (.ref it) (.ref D) (compEnvC scope cl s3.heap.objs.size X.env)) R s)
  (hun:∀it D env,X.A.under (.compStart e 0 (.ref it) (.ref D) env)=X.A) (hden:∀it D env,(model X.prog X.w).den (.compStart e 0 (.ref it) (.ref D) env) =(compStart e 0 (.ref it) (.ref D) env).onRaise (fun x=>do noteFrame x env;standAt theWindowsPlace))
  (hev:∀E Q s,wpAny (model X.prog X.w) X.A (comprehension e scope X.env p2 newAcc false (eval iter X.env)) Q E s->wpAny (model X.prog X.w) X.A (eval e X.env) Q E s) :
  PE X e (Em wi o cap lp):=by
 intro pins s σ H Q I h
 refine hev _ _ _ (wpAny_comprehension_free (use:=none) hcl hs S.clos S.kind S.loc (thn (hi pins s σ H _ I h) fun v s1 h1=>thn h1 fun itv s2 h2=>?_))
 obtain⟨it,fp,tn,J,H2,eit,I2,T,st2,f2,R2⟩:=h2
 subst eit
 refine hnew pins s2 σ H2 _ _ I2 fun s3 I3 k3=>?_
 have hD:H2 s2.heap.objs.size=none:=I2.hok.fresh (Nat.le_refl _)
 have fok:∀b∈fp,u9 X pins (upd H2 s2.heap.objs.size (o s2.heap.objs.size)) b/\∃ob,s3.heap.get? b=some ob:=fun b hb=>by
  obtain⟨ob,e,_⟩:=T.obj _ _ st2 b hb
  obtain⟨f0,fr⟩:=f2 b hb
  exact⟨⟨by rw[B5 (Nat.ne_of_lt (Heap.lt_size e))];exact f0,fr⟩,ob,k3 b ob e⟩
 refine wpAny_newFunctionEnv S.nocell (by intro y hy;simp at hy) (fun h1 hns hsb=>?_) S.kind
 have hk:∀b ob,s3.heap.get? b=some ob->h1.get? b=some ob:=fun b ob e=>(hsb.2 b (Nat.ne_of_lt (Heap.lt_size e))).trans (Heap.get?_push_of_some _ e)
 have I4:Inv (cxC X scope cl N' pins fp s3 (upd H2 s2.heap.objs.size (o s2.heap.objs.size))) [] (Je cap σ) (upd H2 s2.heap.objs.size (o s2.heap.objs.size)) { s3 with heap:=h1,toks:=s3.toks +([]:List (Str×Value)).length } :=
  I3.block S hc fok hns hk
 have st4:tn 0 h1:=T.keep 0 _ _ st2 fun b hb ob e=>hk b ob (k3 b ob e)
 refine W9 (X:=cxC X scope cl N' pins fp s3 (upd H2 s2.heap.objs.size (o s2.heap.objs.size))) (gs:=⟨tg,iter,ifs,0⟩::gs) (e:=e) (d:=0) (tg:=tg) (iter:=iter) (ifs:=ifs) (hun _ _ _) (hden _ _ _) hcl rfl T st4 ?_
 refine hlp pins fp s3 _ s2.heap.objs.size it fp tn J (Je cap σ) _ _ _ _ T I4 st4 (fun b hb=>?_) (R2 _ hD) fun s' σ' H' I' q'=>?_
 ·obtain⟨⟨f0,f1,f2',f3,f4,f5⟩,ob,eo⟩:=fok b hb
  refine⟨f0,Nat.ne_of_lt (Heap.lt_size eo),fun hf=>?_,.inl hb,fun x c e=>f4 x c (S.cin.get e),fun p hp=>f5 p (by simpa [cxC] using hp)⟩
  rcases List.mem_cons.mp (I3.stkSub b hf)with z | z
  ·exact f1 z
  ·exact f2' z
 ·obtain⟨m,hn,_⟩:=I'.loc
  exact⟨m,hn,fun h' hb=>⟨.ref _,H',I3.unblock (fun b hb=>(fok b hb).1) I' hb,rfl,q'⟩⟩
end
section
variable{X:Cx}{tg iter elt:Expr}{ifs:List Expr}{g:TG}{tc:TT}{te:TE}{scope:Scope}{cl:List (Str×Addr)}{N':List Str}{cap:List (Option Nat)}{pos:Pos}{wi:TI}
noncomputable def Cr(D:Addr)(te:TE):TEm:=fun σ H Q=>te σ H fun y H1=>∃ys,H1 D=some (.lst ys)/\ys.length<sizeLine/\Q σ (upd H1 D (.lst (ys ++ [y])))
theorem Fs{α:Type}{X:Cx}(hxe:X.xe=fun _ _=>False){m:Sem α}{P:α->Shared->Prop}{E:Value->Shared->Prop}{s:Shared}(q:wpAny (model X.prog X.w) X.A m P X.xe s):wpAny (model X.prog X.w) X.A m P E s:=by
 rw[hxe]at q
 exact wpAny_mono q (fun _ _ z=>z) fun _ _ z=>z.elim
theorem Ao{D:Addr}(hxe:X.xe=fun _ _=>False)(he:PE X elt te):PEm X (emL elt (.ref D) X.env) (Cr D te):=by
 intro pins s σ H Q k F E I h hk
 unfold emL
 refine wpAny_bind (wpAny_bind (wpAny_mono (Fs hxe (he pins s σ H _ I h)) (fun u s1 ⟨y,H1,I1,r1,ys,e1,z1,q1⟩=>?_) fun _ _ z=>z))
 refine wpAny_bind (wpAny_mono (Fs hxe (E8 pins s1 σ H1 (.ref D) [y] (.ref D) [u] (fun v H2=>v = .non/\Q σ H2) I1 rfl (.cons r1 .nil) ⟨D,ys,y,rfl,rfl,e1,z1,rfl,q1⟩)) (fun v s2 ⟨y2,H2,I2,r2,_,q2⟩=>?_) fun _ _ z=>z)
 exact wpAny_pure (hk s2 σ H2 I2 q2)
theorem Q5(S:CScope X scope cl N' cap)(hc:X.calm=true)(hi:PI X tg iter wi)
  (hb:∀(pins:List (Addr×Obj)) (ex:List Addr) (s3:Shared) (H3:Hp),PG (cxC X scope cl N' pins ex s3 H3) tg g/\PTs (cxC X scope cl N' pins ex s3 H3) ifs tc/\PE (cxC X scope cl N' pins ex s3 H3) elt te)
  (hs:∀x,foldedSetIterable iter X.env x=pure x:=by intro _;rfl) :
  PE X (.ListComp elt [⟨tg,iter,ifs,0⟩] scope pos) (Em wi (fun _=>.lst []) cap fun D J σ H Q=>Ib g tc (Cr D te) J σ H Q):=by
 refine Hl (newAcc:=newList []) (p2:=firstIterPos [⟨tg,iter,ifs,0⟩] pos) rfl (fun _=>.lst []) hs S hc hi (fun pins s σ H Q E I h=>?_) (fun pins ex s3 H3 D it fp tn J σ s H Q R T I st hf h hR=>?_) (fun _ _ _=>rfl) (fun _ _ _=>rfl) (fun E Q s h=>h)
 ·refine wpAny_newList ?_
  exact h _ (I.lnew (t':=s.toks) (its:=[]) .nil (Nat.zero_le _)) fun b ob e=>Heap.get?_push_of_some _ e
 ·obtain⟨b1,b2,b3⟩:=hb pins ex s3 H3
  exact V7 (X:=cxC X scope cl N' pins ex s3 H3) rfl rfl hc rfl (W7 elt tg iter ifs scope pos _ _ _) b1 b2 (Ao rfl b3) T I st hf h hR
noncomputable def Nk(D:Addr)(tk tv:TE):TEm:=fun σ H Q=>tk σ H fun y H1=>tv σ H1 fun v H2=>∃kvs k,H2 D=some (.dK kvs)/\y=kV k/\kvs.length<sizeLine/\Q σ (upd H2 D (.dK (Gp kvs k v)))
theorem No{D:Addr}{a b:Expr}{ta tb:TE}(hxe:X.xe=fun _ _=>False)(ha:PE X a ta)(hb:PE X b tb):PEm X (emD a b D X.env) (Nk D ta tb):=by
 intro pins s σ H Q k F E I h hk
 unfold emD
 refine wpAny_bind (wpAny_bind (wpAny_mono (Fs hxe (ha pins s σ H _ I h)) (fun u s1 ⟨y,H1,I1,r1,q1⟩=>?_) fun _ _ z=>z))
 refine wpAny_bind (wpAny_holding (wpAny_mono (Fs hxe (hb pins s1 σ H1 _ I1 q1)) (fun r s2 ⟨v,H2,I2,rv,kvs,kk,e,ey,l,q2⟩=>?_) fun _ _ z=>z))
 refine wpAny_bind (wpAny_standAt (wpAny_holding ?_))
 subst ey
 obtain⟨z,hd,vs,rel,dd⟩:=Uz I2.hok e
 have hz:vs.length<=sizeLine:=by rw[<-rel.length];exact z
 have hl:(Gp kvs kk v).length<=sizeLine:=by have:=j8 kvs kk v;omega
 refine wpAny_dictSet_pairs (hsz:=hz) (Lx r1) dd fun h' dd' hs=>?_
 have he:∃q,h'.get? D=some q:=let⟨q,_,_,hq,_⟩:=dd';⟨q,hq⟩
 exact hk _ σ _ (Rk (t':=s2.toks+1) I2 (by rw[e];exact True.intro) hs he (Vv hl hd (rel.put kk rv) dd')) q2
theorem Jq{a b:Expr}{ta tb:TE}(S:CScope X scope cl N' cap)(hc:X.calm=true)(hi:PI X tg iter wi)
  (hb:∀(pins:List (Addr×Obj)) (ex:List Addr) (s3:Shared) (H3:Hp),PG (cxC X scope cl N' pins ex s3 H3) tg g/\PTs (cxC X scope cl N' pins ex s3 H3) ifs tc/\PE (cxC X scope cl N' pins ex s3 H3) a ta/\PE (cxC X scope cl N' pins ex s3 H3) b tb)
  (hs:∀x,foldedSetIterable iter X.env x=pure x:=by intro _;rfl) :
  PE X (.DictComp a b [⟨tg,iter,ifs,0⟩] scope pos) (Em wi (fun _=>.dK []) cap fun D J σ H Q=>Ib g tc (Nk D ta tb) J σ H Q):=by
 refine Hl (newAcc:=newDict) (p2:=firstIterPos [⟨tg,iter,ifs,0⟩] pos) rfl (fun _=>.dK []) hs S hc hi (fun pins s σ H Q E I h=>?_) (fun pins ex s3 H3 D it fp tn J σ s H Q R T I st hf h hR=>?_) (fun _ _ _=>rfl) (fun _ _ _=>rfl) (fun E Q s h=>h)
 ·refine wpAny_newObj_type ?_
  exact h _ (I.laid (a:=s.heap.objs.size) (o:=.dK []) (t':=s.toks) (fun _ _ q=>Heap.get?_push_of_some _ q) (Nat.le_refl _) (Nt s.heap I.big)) fun b ob e=>Heap.get?_push_of_some _ e
 ·obtain⟨b1,b2,b3,b4⟩:=hb pins ex s3 H3
  exact V7 (X:=cxC X scope cl N' pins ex s3 H3) rfl rfl hc rfl (Iv a b tg iter ifs scope pos _ _ _) b1 b2 (No rfl b3 b4) T I st hf h hR
end
instance:LawfulBEq Key where
 rfl {a}:=by cases a with
  | inl i=>show(i == i)=true;simp
  | inr x=>show(x == x)=true;simp
 eq_of_beq {a b} h:=by
  cases a with
  | inl i=>cases b with
   | inl j=>exact congrArg Sum.inl (eq_of_beq (show(i == j)=true from h))
   | inr j=>exact absurd h (by intro z;cases z)
  | inr i=>cases b with
   | inl j=>exact absurd h (by intro z;cases z)
   | inr j=>exact congrArg Sum.inr (eq_of_beq (show(i == j)=true from h))
noncomputable def Jf(P:Program)(w:World)(a:Addr)(l:List Key):HO:=.ext fun h=>h.SetOf (C0 P w) a (fun k=>decide (k∈l)) l.length
section
variable{X:Cx}{pins:List (Addr×Obj)}{σ:St}{H:Hp}{s:Shared}{a:Addr}{l:List Key}
theorem Vi{P:Program}{w:World}{H:Hp}{h:Heap}(z:h.SetOf (C0 P w) a (fun k=>decide (k∈l)) l.length):ObjOk P w H h a (Jf P w a l) :=
 ⟨z,let⟨o,_,_,_,e,_⟩:=z;⟨o,e⟩,fun h1 h2 ⟨o,es,ep,t,e,r⟩ k=>⟨o,es,ep,t,k o e,r⟩⟩
theorem Inv.set(I:Inv X pins σ H s)(e:H a=some (Jf X.prog X.w a l)):s.heap.SetOf (C0 X.prog X.w) a (fun k=>decide (k∈l)) l.length:=by
 obtain⟨z,_⟩:=(show ObjOk X.prog X.w H s.heap a (Jf X.prog X.w a l)from I.hok a _ e)
 exact z
theorem Gx{k:Key}{u:Value}(r:RelV (kV k) u):u.scannable=true:=by
 cases k with
 | inl i=>obtain⟨t,rfl⟩:=r;rfl
 | inr x=>obtain⟨t,rfl⟩:=r;rfl
noncomputable def We(l:List Key)(k:Key):List Key:=if k∈l then l else l ++ [k]
theorem Ev{P:Program}{w:World}{h:Heap}{S S':Key->Bool}{n n':Nat}(z:h.SetOf (C0 P w) a S n)(e:∀k,S' k=S k)(en:n'=n):h.SetOf (C0 P w) a S' n':=by
 have:S'=S:=funext e
 subst this;subst en;exact z
theorem Kq:E7 X (.type "set") (fun xs H Q=>xs = []/\∀p,H p=none->Q (.ref p) (upd H p (Jf X.prog X.w p []))):=by
 intro pins s σ H xs us Q I r h
 obtain⟨rfl,q⟩:=h
 cases r
 refine call_set_0 fun led=>⟨.ref s.heap.objs.size,_,I.laid (t':=s.toks) (fun b o e=>Heap.get?_push_of_some _ e) (Nat.le_refl _) (Vi ?_),rfl,q _ (I.hok.fresh (Nat.le_refl _))⟩
 exact(setObjOf_fresh led).setOf (Heap.get?_push_size _ rfl) (by decide)
noncomputable def Vr(P:Program)(w:World):V->List V->Hp->VK->Prop:=fun x vs H Q=>∃a l k,x = .ref a/\vs = [kV k]/\H a=some (Jf P w a l)/\l.length+1<4096/\Q .non (upd H a (Jf P w a (We l k)))
theorem Va:MtM X "set.add" (Vr X.prog X.w):=by
 intro pins s σ H x vs v us Q I rx rv h
 obtain⟨a,l,k,rfl,rfl,hH,hz,q⟩:=h
 cases rx
 obtain⟨u,rfl,ru⟩:=rv.one
 refine call_set_add (Lx ru) (Gx ru) (I.set hH) hz fun h' hs z=>?_
 refine⟨.non,_,I.write (x:=a) (e:=a) (t':=s.toks+1) (by rw[hH];exact True.intro) (.inl rfl) (fun b q hb e=>(hs.2 b hb).trans e) (let⟨o,_,_,_,e,_⟩:=z;⟨o,e⟩) (Vi (Ev z (fun k'=>?_) ?_)),rfl,q⟩
 ·unfold We
  by_cases e:k∈l
  ·rw[if_pos e]
   by_cases ek:k'=k
   ·subst ek;simp[e]
   ·simp[ek]
  ·rw[if_neg e]
   simp
 ·unfold We
  by_cases e:k∈l
  ·rw[if_pos e];simp[e]
  ·rw[if_neg e];simp[e]
noncomputable def Yf(P:Program)(w:World)(neg:Bool):R2:=fun x y H Q=>∃a l k,y = .ref a/\x=kV k/\H a=some (Jf P w a l)/\Q (.bl (if neg then !decide (k∈l)else decide (k∈l))) H
theorem Km:OpR X (compareOp .In) (Yf X.prog X.w false):=by
 intro pins s σ H x y v u Q I rx ry h
 obtain⟨a,l,k,rfl,rfl,hH,q⟩:=h
 cases ry
 exact wpAny_inSet_of (Lx rx) (Gx rx) (I.set hH) ⟨.bl (decide (k∈l)),H,I.tok _,rfl,q⟩
end
noncomputable def Its(x:Str):It:=⟨fun i _=>i<x.cps.size,fun i H v H'=>H'=H/\∃c,x.cps[i]?=some c/\v = .str ⟨#[c]⟩,fun i _=>i=x.cps.size⟩
theorem Hg{P:Program}{w:World}{K:PySem.W.Frag}{tg:Expr}(it:Addr)(x:Str)(t:Tok)(ty:String)(hty:["enumerate", "zip", "dict_itemiterator", "dict_reverseitemiterator", "odict_iterator", "itertools.zip_longest", "itertools.pairwise"].contains ty=false)
  (W:∀A':Around,A'.handled=none->Walks P w A' it [it] [it] x.cps.size (SignAt x) (fun i h=>h.IsStrIter it ty x t i))
  (hself:∀(A:Around) (i:Nat) (s:Shared) (Q:Value->Shared->Prop) (E:Value->Shared->Prop),s.heap.IsStrIter it ty x t i->Q (.ref it) s->wpAny (model P w) A (pyIter (.ref it)) Q E s):Turn P w K tg (Its x) [it] it (fun i h=>h.IsStrIter it ty x t i) where
 mem:=by simp
 obj:=fun i h st b hb=>by
  have e:b=it:=by simpa using hb
  subst e
  obtain⟨o,e,c,d⟩:=st
  exact⟨o,e,fun v z=>by rw[d]at z;cases z⟩
 keep:=fun i h h' st k=>let⟨o,e,r⟩:=st;⟨o,k it (by simp) o e,r⟩
 item:=by
  intro X hP hw hK hc i pins s σ H E I hf st hg
  subst hP hw hK
  obtain⟨f0,f1,f2,f3,f4,f5⟩:=hf it (by simp)
  refine(W X.A (I.ok.hd hc)).item i s _ _ hg st fun v h' tk hv st' k=>?_
  obtain⟨c,u,ec,ev⟩:=hv
  have I1:Inv X pins σ H { s with heap:=h',toks:=tk }:=I.turned (fun b o hb e=>k b o (by simpa using hb) e) f0 f1 f3 f4 f5
  obtain⟨o,e,c',d⟩:=id st'
  exact⟨v,rfl,Me (s:={ s with heap:=h',toks:=tk }) e c' d hty ⟨.str ⟨#[c]⟩,H,I1,⟨u,ev⟩,⟨rfl,c,ec,rfl⟩,st',fun b hb=>(hf b hb).1⟩⟩
 done:=by
  intro X hP hw hK hc i pins s σ H E I hf st hg
  subst hP hw hK
  obtain⟨f0,f1,f2,f3,f4,f5⟩:=hf it (by simp)
  have hg':i=x.cps.size:=hg
  subst hg'
  exact(W X.A (I.ok.hd hc)).done s _ _ st fun h' tk k=>⟨rfl,I.turned (fun b o hb e=>k b o (by simpa using hb) e) f0 f1 f3 f4 f5⟩
 self:=fun A i s Q E st h=>hself A i s Q E st h
section
variable{X:Cx}{tg:Expr}
noncomputable def Yp(te:TE):TI:=fun σ H R=>te σ H fun x H1=>∃z,x = .str z/\R (Its z) H1
theorem Us{l:Expr}{tl:TE}(hl:PE X l tl):PI X tg l (Yp tl):=by
 intro pins s σ H R I h
 refine thn (hl pins s σ H _ I h) fun v s1 ⟨x,H1,I1,r1,q1⟩=>?_
 obtain⟨z,e,q⟩:=q1
 subst e
 obtain⟨t,rfl⟩:=r1
 have fin:∀(o:Obj) (ty:String),o.cls = .type ty->o.data = .fields #[.str z t,.int (0:Nat) 0]->o.isFreed=false->Turn X.prog X.w X.K tg (Its z) [s1.heap.objs.size] s1.heap.objs.size (fun i h=>h.IsStrIter s1.heap.objs.size ty z t i) ->
   PIE X pins σ tg R (.ref s1.heap.objs.size) { s1 with heap:=s1.heap.push o }:=fun o ty c d hf T=>by
  refine⟨s1.heap.objs.size,[s1.heap.objs.size],_,_,H1,rfl,I1.kept (t':=s1.toks) fun b o e=>Heap.get?_push_of_some _ e,T,⟨o,Heap.get?_push_size _ hf,c,d⟩,fun b hb=>?_,q⟩
  have e:b=s1.heap.objs.size:=by simpa using hb
  subst e
  exact I1.fpOk (Nat.le_refl _) (I1.hok.fresh (Nat.le_refl _))
 cases ha:z.cps.all (· < 128)
 ·exact wpAny_pyIter_wide ha (fin _ _ rfl rfl rfl (Hg _ z t "str_iterator" (by decide) (fun A' hA=>Walks.strWide hA _ z t) fun A i s Q E st h=>wpAny_pyIter_striter_wide st h))
 ·exact wpAny_pyIter_ascii ha (fin _ _ rfl rfl rfl (Hg _ z t "str_ascii_iterator" (by decide) (fun A' hA=>Walks.strAscii hA _ z t) fun A i s Q E st h=>wpAny_pyIter_striter_ascii st h))
end
section
variable{X:Cx}
theorem Pa(hc:X.calm=true):E7 X (.builtin "all") (fun xs H Q=>∃(p:Addr) (bs:List Bool),xs = [.ref p]/\SqL X.K H p (bs.map V.bl)/\Q (.bl (bs.all id)) H):=by
 intro pins s σ H xs us Q I r h
 obtain⟨p,bs,rfl,hq,q⟩:=h
 obtain⟨u,rfl,ru⟩:=V1 r
 cases ru
 obtain⟨its,rv,pl,hz⟩:=I.list hq
 refine call_all_walk (wpAny_pyIter_list pl.isList ?_)
 have hne:p≠s.heap.objs.size:=by
  obtain⟨o,n,e,_⟩:=pl
  exact Nat.ne_of_lt (Heap.lt_size e)
 refine⟨s.heap.objs.size,_,_,_,_,_,fun i=>bs.getD i true,rfl,Walks.list (A:=X.A.in1) (show X.A.in1.handled=none from I.ok.hd hc) _ p hne its.toArray,⟨⟨_,Heap.get?_push_size _ rfl,rfl,rfl⟩,?_⟩,fun i v s' Q' E' hv q'=>?_,fun h' tk k=>?_⟩
 ·obtain⟨o,n,e,c,d,e2⟩:=pl
  exact⟨o,Heap.get?_push_of_some _ e,c,n,e2⟩
 ·have hb:(bs.map V.bl)[i]?=some (V.bl (bs.getD i true))/\RelV (V.bl (bs.getD i true)) v:=by
   have hv':its[i]?=some v:=by simpa using hv
   have hi:i<its.length:=(List.getElem?_eq_some_iff.mp hv').1
   have hl:=rv.length
   rw[List.length_map]at hl
   have e:(bs.map V.bl)[i]?=some (V.bl (bs.getD i true)):=by
    rw[List.getElem?_map,List.getElem?_eq_getElem (by omega)]
    simp[List.getD_eq_getElem?_getD,List.getElem?_eq_getElem (show i<bs.length by omega)]
   obtain⟨u,hu,ru⟩:=rv.get e
   rw[hv']at hu
   cases hu
   exact⟨e,ru⟩
  cases hb.2
  exact wpAny_truthy_bool q'
 ·have hl:=rv.length
  rw[List.length_map]at hl
  have e:(List.range its.toArray.size).all (fun i=>bs.getD i true)=bs.all id:=by
   rw[List.size_toArray,<-hl]
   rw[Bool.eq_iff_iff,List.all_eq_true,List.all_eq_true]
   constructor
   ·intro z b hb
    obtain⟨i,hi,rfl⟩:=List.mem_iff_getElem.mp hb
    have:=z i (List.mem_range.mpr hi)
    simpa [List.getD_eq_getElem?_getD,List.getElem?_eq_getElem hi] using this
   ·intro z i hi
    have hi':=List.mem_range.mp hi
    have:=z bs[i] (List.getElem_mem hi')
    simpa [List.getD_eq_getElem?_getD,List.getElem?_eq_getElem hi'] using this
  rw[e]
  exact⟨.bl (bs.all id),H,I.kept fun b o eb=>k b o (by
   intro hb
   have:b=s.heap.objs.size:=by simpa using hb
   exact absurd (Heap.lt_size eb) (by rw[this];exact Nat.lt_irrefl _)) (Heap.get?_push_of_some _ eb),rfl,q⟩
theorem y8:∀{ss:List Str} {us:List Value},Vals (ss.map V.str) us->StrsAre us ss
 | [],_,.nil=>.nil
 | _::_,_,.cons ⟨t,e⟩ r=>by subst e;exact .cons _ _ (y8 r)
noncomputable def leS(a b:Str):Prop:=¬b.cps.toList<a.cps.toList
theorem Ct:E7 X (.builtin "sorted") (fun xs H Q=>∃(p:Addr) (ss:List Str),xs = [.ref p]/\SqL X.K H p (ss.map V.str)/\∀(l:Addr) (ss':List Str),H l=none->ss'.Perm ss->ss'.Pairwise leS->Q (.ref l) (upd H l (.lst (ss'.map V.str)))):=by
 intro pins s σ H xs us Q I r h
 obtain⟨p,ss,rfl,hq,q⟩:=h
 obtain⟨u,rfl,ru⟩:=V1 r
 cases ru
 obtain⟨its,rv,pl,hz⟩:=I.list hq
 have hS:=y8 rv
 have hl:=rv.length
 refine TS.sorted_gen (collect_list (vs:=its) pl.isList ?_ (by omega))
 refine⟨rfl,by omega,strKind,oneType',fun s2 _=>TS.keys_strs hS,fun out h' e ho k hg=>?_⟩
 have hsz:((s.heap.push (seqObj "list" #[] 0)).update s.heap.objs.size (Obj.mapSeq (· ++ its.toArray))).objs.size=s.heap.objs.size+1:=by rw[Heap.size_update,size_push']
 obtain⟨hp,hs⟩:=ho
 have hm:∀v∈out.toList,∃x t,v = .str x t:=fun v hv=>hS.all v (hp.mem_iff.mp hv)
 have hv:Vals ((out.toList.map strOf).map V.str) out.toList:=by
  have:∀us:List Value,(∀v∈us,∃x t,v = .str x t)->Vals ((us.map strOf).map V.str) us:=by
   intro us
   induction us with
   | nil=>exact fun _=>.nil
   | cons v r ih =>
    intro h
    obtain⟨x,t,rfl⟩:=h v (List.mem_cons_self ..)
    exact .cons ⟨t,rfl⟩ (ih fun u hu=>h u (List.mem_cons_of_mem _ hu))
  exact this _ hm
 have hperm:(out.toList.map strOf).Perm ss:=by
  have:=hp.map strOf
  rwa [hS.strs]at this
 have hpw:(out.toList.map strOf).Pairwise leS:=by
  rw[List.pairwise_map]
  refine(List.Pairwise.and_mem.mp hs).imp fun{u v} ⟨hu,hv',q⟩=>?_
  obtain⟨x,t,rfl⟩:=hm u hu
  obtain⟨y,t',rfl⟩:=hm v hv'
  have q':decide (y.cps.toList<x.cps.toList)=false:=q
  exact of_decide_eq_false q'
 have hk0:∀b o,s.heap.get? b=some o->h'.get? b=some o:=fun b o eb=>k b o (by
  rw[Heap.get?_update_ne _ _ _ _ (Nat.ne_of_lt (Heap.lt_size eb))]
  exact Heap.get?_push_of_some _ eb)
 have hn:H (s.heap.objs.size+1)=none:=I.hok.fresh (Nat.le_succ _)
 have hg':h'.get? (s.heap.objs.size+1)=some (seqObj "list" out e):=by rw[<-hsz];exact hg
 refine⟨.ref (s.heap.objs.size+1),upd H (s.heap.objs.size+1) (.lst ((out.toList.map strOf).map V.str)),?_,by show Value.ref _=_;rw[<-hsz],q _ _ hn hperm hpw⟩
 refine I.laid (t':=s.toks) hk0 (Nat.le_succ _) ⟨?_,out.toList,e,hv,by simpa using hg'⟩
 rw[List.length_map,List.length_map,hp.length_eq]
 omega
end
theorem X7{α β:Type}(f:α->β){l m:List β}(h:l.Perm m):∀ps:List α,m=ps.map f->∃ps':List α,ps'.Perm ps/\l=ps'.map f:=by
 induction h with
 | nil=>intro ps e;exact⟨ps,.refl _,e⟩
 | cons x _ ih =>
  intro ps e
  cases ps with
  | nil=>cases e
  | cons p ps =>
   rw[List.map_cons]at e
   obtain⟨rfl,e2⟩:=List.cons.inj e
   obtain⟨ps',h1,h2⟩:=ih ps e2
   exact⟨p::ps',.cons _ h1,by rw[List.map_cons,h2]⟩
 | swap x y l =>
  intro ps e
  match ps,e with
  | p::q::ps,e =>
   rw[List.map_cons,List.map_cons]at e
   obtain⟨rfl,e2⟩:=List.cons.inj e
   obtain⟨rfl,e3⟩:=List.cons.inj e2
   exact⟨q::p::ps,.swap _ _ _,by rw[List.map_cons,List.map_cons,e3]⟩
 | trans _ _ ih1 ih2 =>
  intro ps e
  obtain⟨ps1,h1,h2⟩:=ih2 ps e
  obtain⟨ps2,h3,h4⟩:=ih1 ps1 h2
  exact⟨ps2,h3.trans h1,h4⟩
noncomputable abbrev PA2:=Addr×Str×Str
noncomputable def Nh(q:PA2):List Nat×List Nat:=(q.2.1.cps.toList,q.2.2.cps.toList)
noncomputable def leP(q r:PA2):Prop:=TS.pairLt (Nh r) (Nh q)=false
noncomputable def E4(H:Hp)(q:PA2):Prop:=H q.1=some (.tup [.str q.2.1,.str q.2.2])
theorem Ce:∀{ps:List PA2} {us:List Value},Vals (ps.map fun q=>V.ref q.1) us->us=ps.map fun q=>Value.ref q.1
 | [],_,.nil=>rfl
 | _::_,_,.cons r t=>by rw[List.map_cons,Ce t];cases r;rfl
theorem Bv:∀(ps:List PA2),Vals (ps.map fun q=>V.ref q.1) (ps.map fun q=>Value.ref q.1)
 | []=>.nil
 | _::ps=>.cons rfl (Bv ps)
section
variable{X:Cx}
theorem Inv.pairAt{pins:List (Addr×Obj)}{σ:St}{H:Hp}{s:Shared}{q:PA2}(I:Inv X pins σ H s)(h:E4 H q):TS.PairAt s.heap (.ref q.1) q.2.1 q.2.2:=by
 obtain⟨its,rv,⟨o,e,c,n,d⟩,_⟩:=I.tuple (SqT.of h)
 obtain⟨u1,u2,rfl,⟨t,rfl⟩,⟨t',rfl⟩⟩:=rv.two
 exact⟨q.1,o,n,t,t',rfl,e,c,d⟩
theorem By:E7 X (.builtin "sorted") (fun xs H Q=>∃(p:Addr) (ps:List PA2),xs = [.ref p]/\SqL X.K H p (ps.map fun q=>V.ref q.1)/\(∀q∈ps,E4 H q) /\
  ∀(l:Addr) (ps':List PA2),H l=none->ps'.Perm ps->ps'.Pairwise leP->Q (.ref l) (upd H l (.lst (ps'.map fun q=>V.ref q.1)))):=by
 intro pins s σ H xs us Q I r h
 obtain⟨p,ps,rfl,hq,hpi,q⟩:=h
 obtain⟨u,rfl,ru⟩:=V1 r
 cases ru
 obtain⟨its,rv,pl,hz⟩:=I.list hq
 have ei:=Ce rv
 have hl:=rv.length
 refine TS.sorted_gen (collect_list (vs:=its) pl.isList ?_ (by omega))
 have hsz:((s.heap.push (seqObj "list" #[] 0)).update s.heap.objs.size (Obj.mapSeq (· ++ its.toArray))).objs.size=s.heap.objs.size+1:=by rw[Heap.size_update,size_push']
 have hk1:∀b o,s.heap.get? b=some o->((s.heap.push (seqObj "list" #[] 0)).update s.heap.objs.size (Obj.mapSeq (· ++ its.toArray))).get? b=some o:=fun b o eb=>by
  rw[Heap.get?_update_ne _ _ _ _ (Nat.ne_of_lt (Heap.lt_size eb))]
  exact Heap.get?_push_of_some _ eb
 have hpa:∀q∈ps,TS.PairAt s.heap (.ref q.1) q.2.1 q.2.2:=fun q hq=>I.pairAt (hpi q hq)
 refine⟨rfl,by omega,TS.pairKind s.heap,tuples' true,fun s2 hE=>TS.keys_pairs (fun v hv=>?_) (fun b o eb=>?_),fun out h' e ho k hg=>?_⟩
 ·rw[ei]at hv
  obtain⟨q,hq,rfl⟩:=List.mem_map.mp hv
  exact⟨_,_,hpa q hq⟩
 ·have hne:b≠((s.heap.push (seqObj "list" #[] 0)).update s.heap.objs.size (Obj.mapSeq (· ++ its.toArray))).objs.size:=by
   rw[hsz]
   exact Nat.ne_of_lt (Nat.lt_succ_of_lt (Heap.lt_size eb))
  exact⟨hne,hE b o hne (hk1 b o eb)⟩
 ·obtain⟨hp,hs⟩:=ho
  rw[ei]at hp
  obtain⟨ps',h1,h2⟩:=X7 (fun q:PA2=>Value.ref q.1) hp ps rfl
  have hpw:ps'.Pairwise leP:=by
   rw[h2,List.pairwise_map]at hs
   refine(List.Pairwise.and_mem.mp hs).imp fun{a b} ⟨ha,hb,z⟩=>?_
   have ka:=(hpa a (h1.mem_iff.mp ha)).key
   have kb:=(hpa b (h1.mem_iff.mp hb)).key
   have z':TS.pairLt ((TS.pairOf s.heap (.ref b.1)).getD ([],[])) ((TS.pairOf s.heap (.ref a.1)).getD ([],[]))=false:=z
   rw[ka,kb]at z'
   exact z'
  have hn:H (s.heap.objs.size+1)=none:=I.hok.fresh (Nat.le_succ _)
  have hg':h'.get? (s.heap.objs.size+1)=some (seqObj "list" out e):=by rw[<-hsz];exact hg
  refine⟨.ref (s.heap.objs.size+1),upd H (s.heap.objs.size+1) (.lst (ps'.map fun q=>V.ref q.1)),?_,by show Value.ref _=_;rw[<-hsz],q _ _ hn h1 hpw⟩
  refine I.laid (t':=s.toks) (fun b o eb=>k b o (hk1 b o eb)) (Nat.le_succ _) ⟨?_,out.toList,e,by rw[h2];exact Bv ps',by simpa using hg'⟩
  rw[List.length_map,h1.length_eq]
  rw[List.length_map]at hz
  exact hz
end
theorem Inv.turnLaid{X:Cx}{pins:List (Addr×Obj)}{σ:St}{H:Hp}{s:Shared}{h':Heap}{t':Nat}{fp:List Addr}{T:Addr}{o:HO}(I:Inv X pins σ H s)(k:∀b ob,b∉fp->s.heap.get? b=some ob->h'.get? b=some ob)
  (hf:∀b∈fp,u9 X pins H b) (hfo:∀b∈fp,∃ob,s.heap.get? b=some ob) (hT:s.heap.objs.size<=T) (new:ObjOk X.prog X.w (upd H T o) h' T o):Inv X pins σ (upd H T o) { s with heap:=h',toks:=t' }:=by
 have hn:=I.hok.fresh hT
 have nT:∀b ob,s.heap.get? b=some ob->b≠T:=fun b ob e=>Nat.ne_of_lt (Nat.lt_of_lt_of_le (Heap.lt_size e) hT)
 have nf:∀b u,H b=some u->b∉fp:=fun b u e hb=>by rw[(hf b hb).1]at e;cases e
 refine I.step (g':=s.gens) (d':=s.drawn) (ch:=fp) (fun b hb=>let⟨_,f1,_,f3,f4,f5⟩:=hf b hb;⟨f3,f1,f4,f5⟩) (fun b ob _ _ hc e _=>k b ob hc e) (fun b ob _ _ hc e _=>⟨ob.slots,k b ob hc e⟩) (fun b ob _ e n=>by rw[B5 (nT b ob e)];exact n)
  (fun b ob hc e=>⟨ob,k b ob hc e⟩) (fun b xs e=>by rw[B5 (B0 e hn)];exact e) (fun b u xs e=>by rw[B5 (B0 e hn)];exact e) (fun b ps e=>⟨#[],by rw[B5 (B0 e hn),e];simp⟩) (fun m hm=>?_) (fun b u e=>?_) I.bare
 ·obtain⟨ob,es,ep,ho,r⟩:=hm
  exact⟨ob,es,ep,k _ ob (fun hb=>(hf _ hb).2.1 rfl) ho,r⟩
 ·by_cases hb:b=T
  ·subst hb;rw[A9]at e;cases e;exact new
  ·rw[B5 hb]at e
   refine(I.hok b u e).stay (fun c v hc q=>k c v ?_ q) (fun c q=>by rw[B5 (B0 q hn)];exact q) fun c xs q=>by rw[B5 (B0 q hn)];exact q
   rcases hc with z | z
   ·rw[z];exact nf b u e
   ·exact nf c _ z
noncomputable def Ite(K:PySem.W.Frag)(a:Addr):It :=
 ⟨fun i H=>∃xs x,SqL K H a xs/\xs[i]?=some x,fun i H v H'=>∃T x,v = .ref T/\H T=none/\H'=upd H T (.tup [.int i,x])/\∀xs,SqL K H a xs->xs[i]?=some x,fun i H=>∃xs,SqL K H a xs/\xs.length=i⟩
theorem Jz{P:Program}{w:World}{K:PySem.W.Frag}{elts:List Expr}{kk:Nat}{tp:Pos}(a it e:Addr)(hei:e≠it):Turn P w K (.Tuple elts kk tp) (Ite K a) [e,it] e (fun i h=>(∃old,IsEnum h e it i old)/\h.IsListIter it a i) where
 mem:=by simp
 obj:=fun i h st b hb=>by
  obtain⟨⟨old,h1⟩,o,h2,c,d⟩:=st
  rcases List.mem_cons.mp hb with rfl | hb
  ·exact⟨_,h1,fun v z=>by cases z⟩
  ·rw[List.mem_singleton.mp hb]
   exact⟨o,h2,fun v z=>by rw[d]at z;cases z⟩
 keep:=fun i h h' st k=>⟨let⟨old,h1⟩:=st.1;⟨old,k e (by simp) _ h1⟩,st.2.at fun o x=>k it (by simp) o x⟩
 item:=by
  intro X hP hw hK hc i pins s σ H E I hf st hg
  subst hP hw hK
  obtain⟨xs,x,hq,hx⟩:=hg
  obtain⟨its,rv,p,hz⟩:=I.list hq
  obtain⟨u,hu,ru⟩:=rv.get hx
  obtain⟨f0,f1,f2,f3,f4,f5⟩:=hf e (by simp)
  obtain⟨g0,g1,g2,g3,g4,g5⟩:=hf it (by simp)
  have hae:a≠e:=fun z=>by
   obtain⟨old,h1⟩:=st.1
   obtain⟨o,n,e1,c,_⟩:=p
   rw[z,h1]at e1
   cases e1
   exact absurd c (by show ¬Value.type "enumerate" = Value.type "list";decide)
  have hai:a≠it:=fun z=>by
   obtain⟨o2,h2,c2,d2⟩:=st.2
   obtain⟨o,n,e1,c,_⟩:=p
   rw[z,h2]at e1
   cases e1
   rw[c2]at c
   exact absurd c (by decide)
  have hi:i<its.toArray.size:=by
   rw[List.size_toArray]
   exact(List.getElem?_eq_some_iff.mp hu).1
  have W:=WalksT.enumerate (prog:=X.prog) (w:=X.w) (A:=X.A) (I.ok.hd hc) e it a hei hae hai its.toArray
  refine W.item i s _ _ hi ⟨st.1,st.2,p.isList⟩ fun T vals h' tk hv hT ht hm k=>?_
  obtain⟨t,x',hx',rfl⟩:=hv
  have:x'=u:=by
   have:its.toArray[i]?=some u:=by simpa using hu
   rw[this]at hx'
   exact(Option.some.inj hx').symm
  subst this
  refine⟨.ref T,rfl,W.go elts kk tp i T _ _ _ hm fun h2 st2 k2=>?_⟩
  have hTn:H T=none:=I.hok.fresh hT
  have hTe:T≠e:=fun z=>W.apart i T h' hm (by simp[z])
  have hTi:T≠it:=fun z=>W.apart i T h' hm (by simp[z])
  have kk2:∀b o,b≠e->b≠it->s.heap.get? b=some o->h2.get? b=some o:=fun b o b1 b2 eb=>k2 b o (by simp[b1,b2]) (k b o (by simp[b1,b2]) eb)
  have hT2:h2.IsTuple T #[.int i t,x']:=by
   obtain⟨o,e1,r⟩:=ht
   exact⟨o,k2 T o (by simp[hTe,hTi]) e1,r⟩
  refine⟨.ref T,upd H T (.tup [.int i,x]),I.turnLaid (fp:=[e,it]) (fun b o hb eb=>kk2 b o (fun z=>hb (by simp[z])) (fun z=>hb (by simp[z])) eb) hf (fun b hb=>?_) hT ⟨?_,[.int i t,x'],.cons ⟨t,rfl⟩ (.cons ru .nil),hT2⟩,rfl,⟨T,x,rfl,hTn,rfl,fun ys hy=>by rw[I.list_inj hy hq];exact hx⟩,⟨st2.1,st2.2.1⟩,fun b hb=>?_⟩
  ·rcases List.mem_cons.mp hb with rfl | hb
   ·obtain⟨old,h1⟩:=st.1
    exact⟨_,h1⟩
   ·rw[List.mem_singleton.mp hb]
    obtain⟨o,h1,_⟩:=st.2
    exact⟨o,h1⟩
  ·show 2<=sizeLine
   decide
  ·rcases List.mem_cons.mp hb with rfl | hb
   ·rw[B5 (Ne.symm hTe)];exact f0
   ·rw[List.mem_singleton.mp hb,B5 (Ne.symm hTi)];exact g0
 done:=by
  intro X hP hw hK hc i pins s σ H E I hf st hg
  subst hP hw hK
  obtain⟨xs,hq,hx⟩:=hg
  obtain⟨its,rv,p,hz⟩:=I.list hq
  obtain⟨f0,f1,f2,f3,f4,f5⟩:=hf e (by simp)
  obtain⟨g0,g1,g2,g3,g4,g5⟩:=hf it (by simp)
  have hae:a≠e:=fun z=>by
   obtain⟨old,h1⟩:=st.1
   obtain⟨o,n,e1,c,_⟩:=p
   rw[z,h1]at e1
   cases e1
   exact absurd c (by show ¬Value.type "enumerate" = Value.type "list";decide)
  have hai:a≠it:=fun z=>by
   obtain⟨o2,h2,c2,d2⟩:=st.2
   obtain⟨o,n,e1,c,_⟩:=p
   rw[z,h2]at e1
   cases e1
   rw[c2]at c
   exact absurd c (by decide)
  have W:=WalksT.enumerate (prog:=X.prog) (w:=X.w) (A:=X.A) (I.ok.hd hc) e it a hei hae hai its.toArray
  have hl:=rv.length
  have hi:i=its.toArray.size:=by rw[List.size_toArray];omega
  rw[hi]at st
  refine W.done s _ _ ⟨st.1,st.2,p.isList⟩ fun h' tk k=>⟨rfl,?_⟩
  have I1:=I.step (h':=h') (H':=H) (t':=tk) (g':=s.gens) (d':=s.drawn) (ch:=[e,it]) (fun b hb=>let⟨_,f1,_,f3,f4,f5⟩:=hf b hb;⟨f3,f1,f4,f5⟩) (fun b ob _ _ hc e _=>k b ob hc e) (fun b ob _ _ hc e _=>⟨ob.slots,k b ob hc e⟩) (fun _ _ _ _ n=>n)
   (fun b ob hc e=>⟨ob,k b ob hc e⟩) (fun _ _ e=>e) (fun _ _ _ e=>e) (fun b ps e=>⟨#[],by rw[e];simp⟩) (fun m hm=>?_) (fun b u eb=>?_) I.bare
  ·exact I1
  ·obtain⟨ob,es,ep,ho,r⟩:=hm
   exact⟨ob,es,ep,k _ ob (fun hb=>(hf _ hb).2.1 rfl) ho,r⟩
  ·have nf:∀b u,H b=some u->b∉[e,it]:=fun b u e hb=>by rw[(hf b hb).1]at e;cases e
   refine(I.hok b u eb).stay (fun c v hc q=>k c v ?_ q) (fun _ q=>q) fun _ _ q=>q
   rcases hc with z | z
   ·rw[z];exact nf b u eb
   ·exact nf c _ z
 self:=fun A i s Q E st h=>by
  obtain⟨old,he⟩:=st.1
  exact wpAny_pyIter_enum he h
section
variable{X:Cx}{elts:List Expr}{kk:Nat}{tp:Pos}
noncomputable def Ue(K:PySem.W.Frag)(ta:TA):TI:=fun σ H R=>ta σ H fun vs H1=>∃a xs,vs = [.ref a]/\SqL K H1 a xs/\R (Ite K a) H1
theorem Td{a:Expr}{ta:TA}{p pos:Pos}(hg:Gl X "enumerate")(hm:X.mg "enumerate" = none)(hv:bootBuiltins "enumerate" = some (.type "enumerate"))(ha:PA X [a] ta)(hs:starEach [a] X.env = [(false,eval a X.env)]:=by rfl):PI X (.Tuple elts kk tp) (.Call (.Name "enumerate" p) [a] [] pos) (Ue X.K ta):=by
 intro pins s σ H R I h
 refine Call_ (y4 I hg hm hv (PyProof.Rows.callWith_type1 (thn (ha pos pins s σ H _ I h) fun us s1 ⟨vs,H1,I1,r1,q1⟩=>?_) hs rfl))
 obtain⟨l,xs,e,hq,q⟩:=q1
 subst e
 obtain⟨u,rfl,ru⟩:=V1 r1
 cases ru
 obtain⟨its,rv,pl,hz⟩:=I1.list hq
 refine call_enumerate_list pl.isList fun h' he hit hsz k=>wpAny_pyIter_enum he ?_
 have I2:Inv X pins σ H1 { s1 with heap:=h' }:=I1.kept (t':=s1.toks) k
 refine⟨s1.heap.objs.size+1,[s1.heap.objs.size+1,s1.heap.objs.size],_,_,H1,rfl,I2,Jz l s1.heap.objs.size (s1.heap.objs.size+1) (Nat.succ_ne_self _),⟨⟨_,he⟩,hit⟩,fun b hb=>?_,q⟩
 rcases List.mem_cons.mp hb with z | hb
 ·rw[z]
  exact I1.fpOk (Nat.le_succ _) (I1.hok.fresh (Nat.le_succ _))
 ·rw[List.mem_singleton.mp hb]
  exact I1.fpOk (Nat.le_refl _) (I1.hok.fresh (Nat.le_refl _))
end
end L2
namespace ST
open PySem
noncomputable def stp(mask i:Nat):Nat:=(5*i+1) %(mask+1)
noncomputable def itr(mask:Nat):Nat->Nat->Nat
 | 0,i=>i
 | t+1,i=>itr mask t (stp mask i)
noncomputable def orb(mask:Nat):Nat->Nat->List Nat
 | 0,_=>[]
 | n+1,i=>i::orb mask n (stp mask i)
theorem Ey(mask a b i:Nat):itr mask (a+b) i=itr mask b (itr mask a i):=by
 induction a generalizing i with
 | zero=>rw[Nat.zero_add];rfl
 | succ a ih=>rw[Nat.succ_add];exact ih (stp mask i)
theorem Ki{mask j:Nat}:∀{n i:Nat},j∈orb mask n i->∃t,t<n/\itr mask t i=j
 | 0,_,h=>by simp[orb]at h
 | n+1,i,h=>by
  rcases List.mem_cons.mp h with rfl | h
  ·exact⟨0,by omega,rfl⟩
  ·obtain⟨t,h1,h2⟩:=Ki h
   exact⟨t+1,by omega,h2⟩
noncomputable def Msk(mask:Nat):Prop:=mask=7\/mask=31\/mask=127\/mask=511
noncomputable def full(mask:Nat):Bool:=(List.range (mask+1)).all (fun j=>(orb mask (mask+1) 0).contains j)&&itr mask (mask+1) 0 == 0
theorem Wq:full 7=true:=by decide +kernel
theorem Wb:full 31=true:=by decide +kernel
theorem Rh:full 127=true:=by decide +kernel
theorem So:full 511=true:=by decide +kernel
theorem Msk.full{mask:Nat}(h:Msk mask):full mask=true:=by
 rcases h with rfl | rfl | rfl | rfl
 ·exact Wq
 ·exact Wb
 ·exact Rh
 ·exact So
theorem cyc{mask:Nat}(h:Msk mask){i j:Nat}(hi:i<=mask)(hj:j<=mask):∃t,t<=mask/\itr mask t i=j:=by
 have f:=h.full
 unfold ST.full at f
 rw[Bool.and_eq_true,List.all_eq_true]at f
 obtain⟨f1,f2⟩:=f
 have f2:itr mask (mask+1) 0=0:=by simpa using f2
 have at_:∀k,k<=mask->∃t,t<mask+1/\itr mask t 0=k:=fun k hk=>Ki (by simpa using f1 k (List.mem_range.mpr (by omega)))
 obtain⟨a,ha,ea⟩:=at_ i hi
 obtain⟨b,hb,eb⟩:=at_ j hj
 by_cases hab:a<=b
 ·refine⟨b-a,by omega,?_⟩
  rw[<-ea,<-Ey,show a +(b-a)=b by omega,eb]
 ·refine⟨mask+1-a+b,by omega,?_⟩
  rw[<-ea,<-Ey,show a +(mask+1-a+b) =(mask+1)+b by omega,Ey,f2,eb]
noncomputable def lps(mask:Nat):Nat->Nat×Nat->Nat×Nat
 | 0,x=>x
 | t+1,x=>lps mask t (SetTable.leap mask x.1 x.2)
theorem Re(mask a b:Nat)(x:Nat×Nat):lps mask (a+b) x=lps mask b (lps mask a x):=by
 induction a generalizing x with
 | zero=>rw[Nat.zero_add];rfl
 | succ a ih=>rw[Nat.succ_add];exact ih _
theorem Ha(mask:Nat):∀(t:Nat) (x:Nat×Nat),(lps mask t x).2=x.2 / 32^t
 | 0,x=>by simp[lps]
 | t+1,x=>by
  show(lps mask t (SetTable.leap mask x.1 x.2)).2=_
  rw[Ha mask t]
  show x.2 / 32 / 32^t=_
  rw[Nat.div_div_eq_div_mul,Nat.pow_succ,Nat.mul_comm]
theorem Pk(mask:Nat):∀(t:Nat) (x:Nat×Nat),x.1<=mask->(lps mask t x).1<=mask
 | 0,_,h=>h
 | t+1,x,_=>Pk mask t _ (Nat.lt_succ_iff.mp (Nat.mod_lt _ (Nat.succ_pos _)))
theorem Hf(mask:Nat):∀(t i:Nat),lps mask t (i,0) =(itr mask t i,0)
 | 0,_=>rfl
 | t+1,i=>by
  show lps mask t ((i*5+1+0 / 32) %(mask+1),0 / 32)=_
  rw[Nat.zero_div,Nat.add_zero,Hf mask t,Nat.mul_comm]
  rfl
theorem Mp{mask:Nat}(h:Msk mask){i j p:Nat}(hi:i<=mask)(hj:j<=mask)(hp:p<2^64):∃t,t<=mask+13/\(lps mask t (i,p)).1=j:=by
 have e2:(lps mask 13 (i,p)).2=0:=by
  rw[Ha]
  exact Nat.div_eq_of_lt (Nat.lt_of_lt_of_le hp (by decide))
 obtain⟨t,ht,et⟩:=cyc h (Pk mask 13 (i,p) hi) hj
 refine⟨13+t,by omega,?_⟩
 rw[Re]
 have:lps mask 13 (i,p) =((lps mask 13 (i,p)).1,0):=Prod.ext rfl e2
 rw[this,Hf]
 exact et
noncomputable def adv(t:SetTable):Nat->SetTable.Probe->SetTable.Probe
 | 0,p=>p
 | n+1,p=>adv t n (t.advance p)
theorem Lc(t:SetTable)(a b:Nat)(p:SetTable.Probe):adv t (a+b) p=adv t b (adv t a p):=by
 induction a generalizing p with
 | zero=>rw[Nat.zero_add];rfl
 | succ a ih=>rw[Nat.succ_add];exact ih _
theorem Mv(t:SetTable):∀(m:Nat) (p:SetTable.Probe),p.more=m->∃p',adv t (m+1) p=p'/\p'.i =(SetTable.leap t.mask p.i p.perturb).1/\p'.perturb =(SetTable.leap t.mask p.i p.perturb).2/\p'.j=p'.i/\p'.more=SetTable.runEnd t.mask p'.i-p'.i/\p'.dummy=p.dummy
 | 0,p,h=>by
  have ea:t.advance p ={ p with j:=(SetTable.leap t.mask p.i p.perturb).1,more:=SetTable.runEnd t.mask (SetTable.leap t.mask p.i p.perturb).1-(SetTable.leap t.mask p.i p.perturb).1,i:=(SetTable.leap t.mask p.i p.perturb).1,perturb:=(SetTable.leap t.mask p.i p.perturb).2 }:=by
   unfold SetTable.advance
   rw[if_neg (by omega)]
  refine⟨t.advance p,rfl,?_⟩
  rw[ea]
  exact⟨rfl,rfl,rfl,rfl,rfl⟩
 | m+1,p,h=>by
  have ea:t.advance p ={ p with j:=p.j+1,more:=p.more-1 }:=by unfold SetTable.advance;rw[if_pos (by omega)]
  obtain⟨p',h1,h2⟩:=Mv t m (t.advance p) (by rw[ea];show p.more-1=m;omega)
  rw[ea]at h2
  exact⟨p',h1,h2⟩
theorem Tr(mask i:Nat):SetTable.runEnd mask i-i<=9:=by unfold SetTable.runEnd;split<;>omega
theorem Mo(t:SetTable):∀(n:Nat) (p:SetTable.Probe),p.j=p.i->p.more=SetTable.runEnd t.mask p.i-p.i->∃k,k<=10*n/\(adv t k p).j =(lps t.mask n (p.i,p.perturb)).1
 | 0,p,h1,_=>⟨0,by omega,h1⟩
 | n+1,p,h1,h2=>by
  obtain⟨p',e,a1,a2,a3,a4,_⟩:=Mv t p.more p rfl
  obtain⟨k,hk,ek⟩:=Mo t n p' a3 a4
  have:=Tr t.mask p.i
  refine⟨p.more+1+k,by omega,?_⟩
  rw[Lc,e,ek,a1,a2]
  rfl
theorem Dp(t:SetTable):∀(n:Nat) (p:SetTable.Probe),(adv t n p).dummy=p.dummy
 | 0,_=>rfl
 | n+1,p=>by
  show(adv t n (t.advance p)).dummy=_
  rw[Dp t n]
  unfold SetTable.advance
  split<;>rfl
theorem Kr{t:SetTable}(hm:Msk t.mask)(h:Int){j:Nat}(hj:j<=t.mask):∃n,n<10*SetTable.turns t.mask/\(adv t n (t.probeStart h)).j=j:=by
 have hb:SetTable.bits h<2^64:=by
  unfold SetTable.bits
  have h1:0<=h %(2^64:Int):=Int.emod_nonneg _ (by decide)
  have h2:h %(2^64:Int)<2^64:=Int.emod_lt_of_pos _ (by decide)
  omega
 have hi:SetTable.bits h %(t.mask+1)<=t.mask:=Nat.lt_succ_iff.mp (Nat.mod_lt _ (Nat.succ_pos _))
 obtain⟨n,hn,en⟩:=Mp hm hi hj hb
 obtain⟨k,hk,ek⟩:=Mo t n (t.probeStart h) rfl rfl
 refine⟨k,by unfold SetTable.turns;omega,ek.trans en⟩
theorem W5{t:SetTable}(hd:t.dummies = #[])(j:Nat):t.slot j = .empty\/∃i,t.slot j = .live i/\t.place[i]?=some j:=by
 unfold SetTable.slot
 dsimp only
 by_cases h:(t.place[SetTable.below t.place j]? == some j)=true
 ·rw[if_pos h]
  exact .inr ⟨_,rfl,by simpa using h⟩
 ·rw[if_neg h]
  have:SetTable.has t.dummies j=false:=by
   rw[hd]
   unfold SetTable.has
   simp
  rw[this]
  exact .inl rfl
theorem Il{t:SetTable}(hd:t.dummies = #[])(hs:t.place.size<=t.mask):∃j,j<=t.mask/\t.slot j = .empty:=by
 by_cases h:∃j,j<=t.mask/\t.slot j = .empty
 ·exact h
 ·exfalso
  have all:∀j∈List.range (t.mask+1),j∈t.place.toList:=fun j hj=>by
   have hj':j<=t.mask:=by have:=List.mem_range.mp hj;omega
   rcases W5 hd j with e | ⟨i,_,e⟩
   ·exact absurd ⟨j,hj',e⟩ h
   ·exact List.mem_of_getElem? (by rw[Array.getElem?_toList];exact e)
  have:=(List.nodup_range (n:=t.mask+1)).length_le_of_subset all
  rw[List.length_range,Array.length_toList]at this
  omega
theorem Qu{t:SetTable}(hd:t.dummies = #[])(hashAt:Nat->Int)(h:Int)(p:SetTable.Probe)(hpd:p.dummy=none):∀(k m n fuel:Nat),m+k=n->t.slot (adv t n p).j = .empty->k<fuel ->
  (∃j,SetTable.probe.go t hashAt h fuel (adv t m p)=some (.empty j none)/\t.slot j = .empty) \/
   ∃l i,m<=l/\l<n/\t.slot (adv t l p).j = .live i/\hashAt i=h/\SetTable.probe.go t hashAt h fuel (adv t m p)=some (.candidate (adv t l p).j i (adv t (l+1) p))
 | k,m,n,0,_,_,hf=>absurd hf (Nat.not_lt_zero _)
 | k,m,n,fuel+1,e,he,hf=>by
  have hdm:(adv t m p).dummy=none:=(Dp t m p).trans hpd
  have nx:adv t (m+1) p=t.advance (adv t m p):=Lc t m 1 p
  rcases W5 hd (adv t m p).j with es | ⟨i,es,ep⟩
  ·refine .inl ⟨(adv t m p).j,?_,es⟩
   unfold SetTable.probe.go
   rw[es,hdm]
  ·have hk:k≠0:=by
    rintro rfl
    have:m=n:=by omega
    subst this
    rw[he]at es;cases es
   by_cases hh:hashAt i=h
   ·refine .inr ⟨m,i,Nat.le_refl _,by omega,es,hh,?_⟩
    unfold SetTable.probe.go
    rw[es]
    dsimp only
    rw[if_pos (by simpa using hh),nx]
   ·have eg:SetTable.probe.go t hashAt h (fuel+1) (adv t m p)=SetTable.probe.go t hashAt h fuel (adv t (m+1) p):=by
     conv=>lhs;unfold SetTable.probe.go
     rw[es]
     dsimp only
     rw[if_neg (by simpa using hh),nx]
    rcases Qu hd hashAt h p hpd (k-1) (m+1) n fuel (by omega) he (by omega)with⟨j,h1,h2⟩ | ⟨l,i',h1,h2,h3,h4,h5⟩
    ·exact .inl ⟨j,eg.trans h1,h2⟩
    ·exact .inr ⟨l,i',by omega,h2,h3,h4,eg.trans h5⟩
theorem Bf{α β:Type}{f g:α->Option β}:∀{l:List α},(∀x∈l,f x=g x)->l.filterMap f=l.filterMap g
 | [],_=>rfl
 | a::r,h=>by
  have h1:=h a (List.mem_cons_self ..)
  have h2:=Bf (l:=r) fun x hx=>h x (List.mem_cons_of_mem _ hx)
  rw[List.filterMap_cons,List.filterMap_cons,h1,h2]
theorem Qf{α:Type}{f g:Nat->Option α}{j:Nat}{k:α}(hg:g j=some k)(hf:f j=none):∀{l:List Nat},l.Nodup->j∈l->(∀i,i≠j->g i=f i)->(l.filterMap g).Perm (k::l.filterMap f)
 | [],_,h,_=>by simp at h
 | i::r,nd,h,he=>by
  obtain⟨n1,n2⟩:=List.nodup_cons.mp nd
  by_cases e:i=j
  ·subst e
   have er:r.filterMap g=r.filterMap f:=Bf fun x hx=>he x fun z=>n1 (z▸hx)
   rw[List.filterMap_cons_some hg,List.filterMap_cons_none hf,er]
  ·have hr:=Qf hg hf n2 ((List.mem_cons.mp h).resolve_left fun z=>e z.symm) he
   cases ef:f i with
   | none=>rw[List.filterMap_cons_none ((he i e).trans ef),List.filterMap_cons_none ef];exact hr
   | some b =>
    rw[List.filterMap_cons_some ((he i e).trans ef),List.filterMap_cons_some ef]
    exact(List.Perm.cons b hr).trans (List.Perm.swap _ _ _)
noncomputable def ocs(mask:Nat)(ow:Array (Option Nat)):List Nat:=(List.range (mask+1)).filterMap fun j=>ow.getD j none
structure LI(mask:Nat)(ow:Array (Option Nat))(k:Nat):Prop where
 sz:ow.size=mask+1
 pm:(ocs mask ow).Perm (List.range k)
theorem Kx{mask:Nat}{ow:Array (Option Nat)}{j:Nat}(hj:ow[j]?=some none):∀(t fuel i p:Nat),(lps mask t (i,p)).1=j->t<fuel->∃j',SetTable.layClean.free mask ow fuel i p=some j'/\ow[j']?=some none
 | t,0,_,_,_,h=>absurd h (Nat.not_lt_zero _)
 | t,fuel+1,i,p,e,h=>by
  unfold SetTable.layClean.free
  cases q:(List.range (SetTable.runEnd mask i+1-i)).find? fun k=>(ow.getD (i+k) (some 0)).isNone with
  | some k =>
   refine⟨i+k,rfl,?_⟩
   have:=List.find?_some q
   rw[Array.getD_eq_getD_getElem?]at this
   cases g:ow[i+k]? with
   | none=>rw[g]at this;simp at this
   | some z=>rw[g]at this;simp at this;rw[this]
  | none =>
   dsimp only
   cases t with
   | zero =>
    exfalso
    have e':i=j:=e
    subst e'
    have hr:0∈List.range (SetTable.runEnd mask i+1-i):=List.mem_range.mpr (by unfold SetTable.runEnd;split<;>omega)
    have:=List.find?_eq_none.mp q 0 hr
    rw[Array.getD_eq_getD_getElem?,Nat.add_zero,hj]at this
    simp at this
   | succ t=>exact Kx hj t fuel _ _ e (by omega)
theorem LI.room{mask:Nat}{ow:Array (Option Nat)}{k:Nat}(h:LI mask ow k)(hk:k<=mask):∃j,j<=mask/\ow[j]?=some none:=by
 by_cases q:∃j,j<=mask/\ow[j]?=some none
 ·exact q
 ·exfalso
  have all:∀j∈List.range (mask+1),∃v,ow.getD j none=some v:=fun j hj=>by
   have hj':j<ow.size:=by rw[h.sz];exact List.mem_range.mp hj
   cases e:ow[j]? with
   | none=>rw[Array.getElem?_eq_none_iff]at e;omega
   | some v =>
    cases v with
    | none=>exact absurd ⟨j,by have:=List.mem_range.mp hj;omega,e⟩ q
    | some v=>exact⟨v,by rw[Array.getD_eq_getD_getElem?,e];rfl⟩
  have hl:∀l:List Nat,(∀j∈l,∃v,ow.getD j none=some v)->(l.filterMap fun j=>ow.getD j none).length=l.length:=by
   intro l
   induction l with
   | nil=>intro _;rfl
   | cons j r ih =>
    intro ha
    obtain⟨v,hv⟩:=ha j (List.mem_cons_self ..)
    rw[List.filterMap_cons_some (f:=fun j=>ow.getD j none) hv,List.length_cons,List.length_cons,ih fun x hx=>ha x (List.mem_cons_of_mem _ hx)]
  have:=h.pm.length_eq
  unfold ocs at this
  rw[hl _ all,List.length_range,List.length_range]at this
  omega
theorem LI.put{mask:Nat}{ow:Array (Option Nat)}{k j:Nat}(h:LI mask ow k)(hj:ow[j]?=some none):LI mask (ow.setIfInBounds j (some k)) (k+1):=by
 have hlt:j<ow.size:=by
  obtain⟨h1,_⟩:=Array.getElem?_eq_some_iff.mp hj
  exact h1
 refine⟨by rw[Array.size_setIfInBounds];exact h.sz,?_⟩
 have p:=Qf (f:=fun j=>ow.getD j none) (g:=fun i=>(ow.setIfInBounds j (some k)).getD i none) (j:=j) (k:=k) (by rw[Array.getD_eq_getD_getElem?,Array.getElem?_setIfInBounds_self_of_lt hlt];rfl) (by rw[Array.getD_eq_getD_getElem?,hj];rfl)
  (l:=List.range (mask+1)) List.nodup_range (List.mem_range.mpr (by rw[<-h.sz];exact hlt)) fun i hi=>by
   rw[Array.getD_eq_getD_getElem?,Array.getElem?_setIfInBounds_ne (Ne.symm hi),<-Array.getD_eq_getD_getElem?]
 have e:List.range (k+1)=List.range k ++ [k]:=List.range_succ
 refine p.trans ?_
 rw[e]
 exact(List.Perm.cons k h.pm).trans (List.perm_append_comm (l₁:=[k]))
theorem Sv(h:Int):SetTable.bits h<2^64:=by
 unfold SetTable.bits
 have h1:0<=h %(2^64:Int):=Int.emod_nonneg _ (by decide)
 have h2:h %(2^64:Int)<2^64:=Int.emod_lt_of_pos _ (by decide)
 omega
theorem Qa{mask:Nat}(hm:Msk mask):∀(hs:List Int) (ow:Array (Option Nat)) (k:Nat),LI mask ow k->k+hs.length<=mask->∃ow',(hs.foldl (init:=some (ow,k)) fun acc h=>do
   let(owner,k) <-acc
   let j <-SetTable.layClean.free mask owner (SetTable.turns mask) (SetTable.bits h %(mask+1)) (SetTable.bits h)
   pure (owner.setIfInBounds j (some k),k+1))=some (ow',k+hs.length)/\LI mask ow' (k+hs.length)
 | [],ow,k,h,_=>⟨ow,rfl,h⟩
 | x::r,ow,k,h,hk=>by
  rw[List.length_cons]at hk
  obtain⟨j,hj,ej⟩:=h.room (by omega)
  obtain⟨t,ht,et⟩:=Mp hm (i:=SetTable.bits x %(mask+1)) (j:=j) (Nat.lt_succ_iff.mp (Nat.mod_lt _ (Nat.succ_pos _))) hj (Sv x)
  obtain⟨j',h1,h2⟩:=Kx ej t (SetTable.turns mask) _ _ et (by unfold SetTable.turns;omega)
  obtain⟨ow',h3,h4⟩:=Qa hm r (ow.setIfInBounds j' (some k)) (k+1) (h.put h2) (by omega)
  refine⟨ow',?_,by rw[List.length_cons,show k +(r.length+1)=k+1+r.length by omega];exact h4⟩
  rw[List.foldl_cons]
  show List.foldl _ ((SetTable.layClean.free mask ow (SetTable.turns mask) (SetTable.bits x %(mask+1)) (SetTable.bits x)).bind fun j=>some (ow.setIfInBounds j (some k),k+1)) r=_
  rw[h1]
  show List.foldl _ (some (ow.setIfInBounds j' (some k),k+1)) r=_
  rw[List.length_cons,show k +(r.length+1)=k+1+r.length by omega]
  exact h3
theorem Ta{mask:Nat}(hm:Msk mask)(finger moves:Nat)(led plain:Bool)(hs:Array Int)(hn:hs.size<=mask) :
  ∃place order,SetTable.laid mask finger moves led plain hs=some ({ mask,place,dummies:=#[],finger,led,moves,plain },order)/\place.size=hs.size/\order.toList.Perm (List.range hs.size):=by
 have h0:LI mask (Array.replicate (mask+1) none) 0:=by
  refine⟨Array.size_replicate,?_⟩
  have:ocs mask (Array.replicate (mask+1) none) = []:=by
   unfold ocs
   rw[List.filterMap_eq_nil_iff]
   intro j hj
   rw[Array.getD_eq_getD_getElem?,Array.getElem?_replicate]
   split<;>rfl
  rw[this]
  exact List.Perm.refl _
 obtain⟨ow,h1,h2⟩:=Qa hm hs.toList _ 0 h0 (by rw[Array.length_toList];omega)
 rw[Nat.zero_add,Array.length_toList]at h1 h2
 have hc:SetTable.layClean mask hs=some ow:=by
  unfold SetTable.layClean
  rw[<-Array.foldl_toList,h1]
  rfl
 have e2:((List.range (mask+1)).filterMap fun j=>(ow.getD j none).map (j,·)).map (·.2)=ocs mask ow:=by
  unfold ocs
  rw[List.map_filterMap]
  refine Bf fun j _=>?_
  cases ow.getD j none<;>rfl
 refine⟨(((List.range (mask+1)).filterMap fun j=>(ow.getD j none).map (j,·)).map (·.1)).toArray,(((List.range (mask+1)).filterMap fun j=>(ow.getD j none).map (j,·)).map (·.2)).toArray,?_,?_,?_⟩
 ·unfold SetTable.laid
  rw[hc]
  rfl
 ·rw[List.size_toArray,List.length_map,<-List.length_map (f:=(·.2)),e2,h2.pm.length_eq,List.length_range]
 ·show(((List.range (mask+1)).filterMap fun j=>(ow.getD j none).map (j,·)).map (·.2)).Perm _
  rw[e2]
  exact h2.pm
theorem Nn{es:Array (Int×Value)}{order:Array Nat}(h:order.toList.Perm (List.range es.size)):(order.filterMap (es[·]?)).toList.Perm es.toList:=by
 rw[Array.toList_filterMap]
 refine(h.filterMap _).trans (List.Perm.of_eq ?_)
 refine List.ext_getElem? fun t=>?_
 have:(List.range es.size).filterMap (fun x=>es[x]?)=es.toList:=by
  have:∀(l:List (Int×Value)),(List.range l.length).filterMap (fun x=>l[x]?)=l:=by
   intro l
   induction l with
   | nil=>rfl
   | cons a r ih =>
    rw[List.length_cons,List.range_succ_eq_map,List.filterMap_cons_some (by rfl:(a::r)[0]?=some a),List.filterMap_map]
    congr 1
  have q:=this es.toList
  rw[Array.length_toList]at q
  simpa using q
 rw[this]
section
variable{prog:Program}{w:World}{K:Type}[DecidableEq K]{knd:KeyKind prog w K}{A:Around}{E:Value->Shared->Prop}{s:Shared}
structure Tab(t:SetTable)(n:Nat):Prop where
 dm:t.dummies = #[]
 pl:t.place.size=n
 mm:Msk t.mask
 rm:n*5<t.mask*3
theorem Tab.fits{t:SetTable}{n:Nat}(h:Tab t n):t.fits n=true:=by
 have:=h.rm
 have:=h.pl
 unfold SetTable.fits SetTable.fill
 rw[h.dm]
 simp
 omega
theorem Tab.odd{t:SetTable}{n:Nat}(h:Tab t n):t.gaveWay=false:=by
 unfold SetTable.gaveWay
 rcases h.mm with e | e | e | e<;>rw[e]<;>rfl
noncomputable def Els(knd:KeyKind prog w K)(es:Array (Int×Value))(ks:List (List K×Addr)):Prop:=es.toList.Perm (ks.map fun q=>((tupleKind knd).hash q.1,Value.ref q.2))
noncomputable def TSet(knd:KeyKind prog w K)(h:Heap)(a:Addr)(ks:List (List K×Addr)):Prop:=∃o es ep t,h.get? a=some o/\o.ExactSet/\o.data = .set es ep t/\Els knd es ks/\Tab t es.size
theorem Els.get{es:Array (Int×Value)}{ks:List (List K×Addr)}(h:Els knd es ks){i:Nat}{e:Int×Value}(he:es[i]?=some e):∃k p,(k,p)∈ks/\e =((tupleKind knd).hash k,.ref p):=by
 have:e∈es.toList:=List.mem_of_getElem? (by rw[Array.getElem?_toList];exact he)
 obtain⟨q,hq,rfl⟩:=List.mem_map.mp (h.mem_iff.mp this)
 exact⟨q.1,q.2,hq,rfl⟩
theorem m8{β:Type}{c:β}{f:Value->β->Sem (ForInStep β)}:∀{l:List Value},(∀y∈l,f y c=pure (.yield c))->forIn l c f=pure c
 | [],_=>List.forIn_nil
 | a::r,h=>by
  rw[List.forIn_cons,h a (List.mem_cons_self ..),pure_bind]
  exact m8 fun y hy=>h y (List.mem_cons_of_mem _ hy)
theorem Di{ks:List K}{vs:List Value}(h:ItemsAre knd ks vs):∀v∈vs,∃x,knd.is x v=true:=by
 induction h with
 | nil=>intro v hv;simp at hv
 | cons h1 _ ih =>
  intro v hv
  rcases List.mem_cons.mp hv with rfl | hv
  ·exact⟨_,h1⟩
  ·exact ih v hv
noncomputable def Flat(knd:KeyKind prog w K):Prop:=∀v,(∃x,knd.is x v=true)->carriedByValue v=true
theorem Flat.no{v:Value}(hF:Flat knd)(h:∃x,knd.is x v=true)(d:Nat):ofAClassStatement d v=pure false:=by
 have:=hF v h
 cases v<;>first
  | (cases d<;>rfl)
  | (exact absurd this (by intro z;cases z))
theorem Px{k:List K}{p:Addr}{Q:Bool->Shared->Prop}(hF:Flat knd)(hk:(tupleKind knd).is s.heap k p)(h:Q false s):wpAny (model prog w) A (ofAClassStatement 8 (.ref p)) Q E s:=by
 obtain⟨o,items,n,ho,hc,hd,hi⟩:=hk
 have hT:s.TypeIs (.ref p) "tuple":=⟨o,ho,hc⟩
 unfold ofAClassStatement
 refine wpAny_bind (wpAny_typeOf hT ?_)
 dsimp only
 rw[if_pos (by rfl)]
 refine wpAny_bind (wpAny_pure ?_)
 simp only[Bool.not_true,Bool.false_eq_true,if_false]
 refine wpAny_bind (wpAny_seqItems ho hd ?_)
 dsimp only
 rw[<-Array.forIn_toList,m8 fun y hy=>by rw[hF.no (Di hi y hy)];rfl]
 exact wpAny_bind (wpAny_pure (wpAny_pure h))
theorem Vp{kx:List K}{px:Addr}{Q:Bool->Shared->Prop}(hF:Flat knd)(hx:(tupleKind knd).is s.heap kx px)(h:Q false s){l:List Value}(hl:∀v∈l,∃k p,v = .ref p/\(tupleKind knd).is s.heap k p) :
  wpAny (model prog w) A (searchCouldBeSeen (.ref px) l) Q E s:=by
 unfold searchCouldBeSeen
 refine wpAny_bind (wpAny_forIn_list _ (fun rest c s'=>s'=s/\c =(none,())/\∀v∈rest,v∈l) _ ?_ ?_ l _ ⟨rfl,rfl,fun _ h=>h⟩)
 ·rintro v rest c s' ⟨rfl,rfl,hr⟩
  obtain⟨k,p,rfl,hk⟩:=hl v (hr v (List.mem_cons_self ..))
  dsimp only
  have hc:carriedByValue (Value.ref px)=false:=rfl
  rw[hc,Bool.false_and,Bool.or_false]
  split
  ·exact wpAny_pure ⟨rfl,rfl,fun u hu=>hr u (List.mem_cons_of_mem _ hu)⟩
  ·refine wpAny_bind ((tupleKind knd).quiet hx ?_)
   simp only[Bool.not_true,Bool.false_eq_true,if_false]
   refine wpAny_bind ((tupleKind knd).quiet hk ?_)
   simp only[Bool.not_true,Bool.false_eq_true,if_false]
   refine wpAny_bind (Px hF hx ?_)
   simp only[Bool.false_eq_true,if_false]
   refine wpAny_bind (Px hF hk ?_)
   simp only[Bool.false_eq_true,if_false]
   exact wpAny_pure ⟨rfl,rfl,fun u hu=>hr u (List.mem_cons_of_mem _ hu)⟩
 ·rintro c s' ⟨rfl,rfl,_⟩
  exact wpAny_pure h
theorem On(t:SetTable):t.sameMemory t.moves t.mask=some true:=by
 unfold SetTable.sameMemory
 simp
theorem Fh{a:Addr}{o:Obj}{es:Array (Int×Value)}{ep:Nat}{t:SetTable}{ks:List (List K×Addr)}{kx:List K}{px:Addr}{adding:Bool}{Q:SetFound->Shared->Prop}{n:Nat}
  (hr:(tupleKind knd).room A) (hF:Flat knd) (ho:s.heap.get? a=some o) (hd:o.data = .set es ep t) (hE:Els knd es ks) (hT:Tab t es.size)
  (hks:∀q∈ks,(tupleKind knd).is s.heap q.1 q.2) (hx:(tupleKind knd).is s.heap kx px) (hne:∀q∈ks,q.1≠kx) (hn:n<10*SetTable.turns t.mask)
  (he:t.slot (adv t n (t.probeStart ((tupleKind knd).hash kx))).j = .empty) (h:∀j,t.slot j = .empty->Q (.free j false) s) :
  ∀(k m fuel:Nat) (stand:Option SetTable.Probe),stand.getD (t.probeStart ((tupleKind knd).hash kx))=adv t m (t.probeStart ((tupleKind knd).hash kx))->m+k=n->k<fuel ->
   wpAny (model prog w) A (setSearchFrom a (.ref px) ((tupleKind knd).hash kx) adding fuel stand) Q E s:=by
 intro k
 induction k using Nat.strongRecOn with
 | _ k ih =>
  intro m fuel stand hst hmk hf
  cases fuel with
  | zero=>omega
  | succ fuel =>
   unfold setSearchFrom
   refine wpAny_bind (wpAny_setState_of ho hd hT.fits ?_)
   dsimp only
   rw[hT.odd]
   simp only[Bool.false_eq_true,if_false]
   rw[hst]
   unfold SetTable.probe
   rcases Qu hT.dm _ ((tupleKind knd).hash kx) (t.probeStart ((tupleKind knd).hash kx)) rfl k m n (10*SetTable.turns t.mask) hmk he (by omega)with⟨j,e1,e2⟩ | ⟨l,i,h1,h2,e1,e2,e3⟩
   ·rw[e1]
    dsimp only
    exact wpAny_pure (h j e2)
   ·rw[e3]
    dsimp only
    obtain⟨i',hi',hpl⟩:∃i',t.slot (adv t l (t.probeStart ((tupleKind knd).hash kx))).j = .live i'/\t.place[i']?=some (adv t l (t.probeStart ((tupleKind knd).hash kx))).j:=by
     rcases W5 hT.dm (adv t l (t.probeStart ((tupleKind knd).hash kx))).j with z | z
     ·rw[z]at e1;cases e1
     ·exact z
    rw[e1]at hi';cases hi'
    have hlt:i<es.size:=by
     have:=(Array.getElem?_eq_some_iff.mp hpl).1
     rw[hT.pl]at this;exact this
    obtain⟨ent,hent⟩:∃ent,es[i]?=some ent:=⟨es[i],Array.getElem?_eq_some_iff.mpr ⟨hlt,rfl⟩⟩
    obtain⟨k',p',hm',rfl⟩:=hE.get hent
    have hseen:∀v∈(es.filter (·.1 ==(tupleKind knd).hash kx)).toList.map (·.2),∃k p,v = .ref p/\(tupleKind knd).is s.heap k p:=by
     intro v hv
     obtain⟨z,hz,rfl⟩:=List.mem_map.mp hv
     have hz':z∈es.toList:=by
      rw[Array.toList_filter]at hz
      exact(List.mem_filter.mp hz).1
     obtain⟨q,hq,rfl⟩:=List.mem_map.mp (hE.mem_iff.mp hz')
     exact⟨q.1,q.2,rfl,hks q hq⟩
    have rest:wpAny (model prog w) A (do
      let some (_,y):=es[i]? | unsupported "internal:set-entry"
      let equal <-holding [y] (eqBool y (.ref px))
      let(es',_,t') <-setState a
      if adding&&equal then return .there none
      let some same:=t'.sameMemory t.moves t.mask | unsupported "set.changed-during-lookup:is-the-new-block-at-the-old-address"
      let still <-match(if same then t'.slot (adv t l (t.probeStart ((tupleKind knd).hash kx))).j else .empty)with
       | .live i'=>match es'[i']? with
        | some (_,y')=>do pure (if <-isSame y' y then some i' else none)
        | none=>pure none
       | _=>pure none
      match still with
      | none=>rule "set.search.anew";setSearchFrom a (.ref px) ((tupleKind knd).hash kx) adding fuel none
      | some i'=>if equal then return .there (some i')else setSearchFrom a (.ref px) ((tupleKind knd).hash kx) adding fuel (some (adv t (l+1) (t.probeStart ((tupleKind knd).hash kx))))) Q E s:=by
     rw[hent]
     dsimp only
     refine wpAny_bind (wpAny_holding ((tupleKind knd).eqBool hr (hks _ hm') hx ?_))
     rw[decide_eq_false (hne _ hm')]
     refine wpAny_bind (wpAny_setState_of ho hd hT.fits ?_)
     dsimp only
     rw[On,Bool.and_false]
     simp only[Bool.false_eq_true,if_false,if_true]
     rw[e1]
     dsimp only
     rw[hent]
     dsimp only
     refine wpAny_bind (wpAny_isSame_ref_self (wpAny_bind (wpAny_pure ?_)))
     simp only[if_true]
     exact ih (n-(l+1)) (by omega) (l+1) fuel _ rfl (by omega) (by omega)
    cases hled:t.led with
    | true =>
     simp only[Bool.not_true,Bool.false_eq_true,if_false]
     exact rest
    | false =>
     simp only[Bool.not_false,if_true]
     refine wpAny_bind (Vp hF hx ?_ hseen)
     simp only[Bool.false_eq_true,if_false]
     exact rest
theorem i9{a:Addr}{o:Obj}{es:Array (Int×Value)}{ep:Nat}{t:SetTable}{ks:List (List K×Addr)}{kx:List K}{px:Addr}{adding:Bool}{Q:SetFound->Shared->Prop}
  (hr:(tupleKind knd).room A) (hF:Flat knd) (ho:s.heap.get? a=some o) (hd:o.data = .set es ep t) (hE:Els knd es ks) (hT:Tab t es.size)
  (hks:∀q∈ks,(tupleKind knd).is s.heap q.1 q.2) (hx:(tupleKind knd).is s.heap kx px) (hne:∀q∈ks,q.1≠kx) (h:∀j,t.slot j = .empty->Q (.free j false) s) :
  wpAny (model prog w) A (setSearch a (.ref px) ((tupleKind knd).hash kx) adding) Q E s:=by
 obtain⟨j,hj,hs⟩:=Il hT.dm (by rw[hT.pl];have:=hT.rm;omega)
 obtain⟨n,hn,e⟩:=Kr hT.mm ((tupleKind knd).hash kx) hj
 unfold setSearch
 refine Fh hr hF ho hd hE hT hks hx hne hn (by rw[e];exact hs) h n 0 100000 none rfl (by omega) ?_
 have:SetTable.turns t.mask<=526:=by
  unfold SetTable.turns
  rcases hT.mm with e | e | e | e<;>omega
 omega
theorem TSet.typeIs{a:Addr}{ks:List (List K×Addr)}(h:TSet knd s.heap a ks):s.TypeIs (.ref a) "set":=let⟨o,_,_,_,ho,hc,_⟩:=h;⟨o,ho,hc.1⟩
theorem Mf{px:Addr}{es:Array (Int×Value)}:byScan (.ref px) es=false:=rfl
theorem Ln{a:Addr}{ks:List (List K×Addr)}{kx:List K}{px:Addr}{Q:Option Nat->Shared->Prop}(hr:(tupleKind knd).room A)(hF:Flat knd)(hS:TSet knd s.heap a ks)
  (hks:∀q∈ks,(tupleKind knd).is s.heap q.1 q.2) (hx:(tupleKind knd).is s.heap kx px) (hne:∀q∈ks,q.1≠kx) (h:Q none s):wpAny (model prog w) A (setFind a (.ref px) ((tupleKind knd).hash kx)) Q E s:=by
 obtain⟨o,es,ep,t,ho,_,hd,hE,hT⟩:=hS
 unfold setFind setFindIn
 refine wpAny_bind (wpAny_setState_of ho hd hT.fits ?_)
 dsimp only
 rw[Mf]
 simp only[Bool.false_eq_true,if_false]
 refine wpAny_bind (i9 hr hF ho hd hE hT hks hx hne fun j _=>?_)
 dsimp only
 exact wpAny_pure h
theorem in_free{neg:Bool}{a:Addr}{ks:List (List K×Addr)}{kx:List K}{px:Addr}{Q:Value->Shared->Prop}(hr:A.units+1<cLine)(hF:Flat knd)(hS:TSet knd s.heap a ks)
  (hks:∀q∈ks,(tupleKind knd).is s.heap q.1 q.2) (hx:(tupleKind knd).is s.heap kx px) (hne:∀q∈ks,q.1≠kx) (h:Q (.bool false) { s with toks:=s.toks +(tupleKind knd).draws kx }) :
  wpAny (model prog w) A (compareOp .In (.ref px) (.ref a)) Q E s:=by
 show wpAny _ _ (do return .bool (<-contains (.ref a) (.ref px))) Q E s
 refine wpAny_bind ?_
 unfold contains
 try with_reducible refine wpAny_holding ?_
 refine wpAny_bind (wpAny_specialOf hS.typeIs F.slot_set_contains.lookup ?_)
 show wpAny _ _ (if(some (Value.builtin "set.__contains__") == some Value.none)=true then _ else _) _ E s
 rw[if_neg (by rw[beq_builtin_none];exact Bool.false_ne_true)]
 refine wpAny_bind (wpAny_callSpecialUnlessNone?_slot (name:=Str.ofString "__contains__") hS.typeIs F.slot_set_contains
  (wpAny_call_entry F.slot_set_contains hS.typeIs entry_set_contains ?_ (F.args_set_contains_2 _ _)))
 unfold Builtin.«frozenset.__contains__» Builtin.Frozenset.oneOther
 simp only[List.isEmpty_nil,bind_assoc]
 unfold Builtin.Frozenset.addrOf Builtin.Frozenset.withSetAsKey setContains
 refine wpAny_bind (wpAny_pure ?_)
 try dsimp only
 refine wpAny_bind (wpAny_pure ?_)
 try dsimp only
 refine wpAny_bind (wpAny_tryCatch ?_)
 refine wpAny_holding ?_
 refine wpAny_bind ((tupleKind knd).pyHash ?hroom hx ?_)
 case hroom=>exact hr
 refine wpAny_bind (Ln (s:={ s with toks:=s.toks +(tupleKind knd).draws kx }) ?hroom hF hS hks hx hne ?_)
 case hroom=>exact hr
 refine wpAny_pure ?_
 show wpAny _ _ (ret (Value.bool false)) _ _ _
 exact wpAny_pure ⟨_,rfl,wpAny_truthy_bool (wpAny_pure h)⟩
noncomputable def Scan(knd:KeyKind prog w K):Prop:=∀v,(∃x,knd.is x v=true)->v.scannable=true
theorem hbv{kx:List K}{px:Addr}{Q:Bool->Shared->Prop}(hB:Scan knd)(hx:(tupleKind knd).is s.heap kx px)(h:∀b,Q b s):wpAny (model prog w) A (hashByValue 8 (.ref px)) Q E s:=by
 obtain⟨o,items,n,ho,hc,hd,hi⟩:=hx
 have hT:s.TypeIs (.ref px) "tuple":=⟨o,ho,hc⟩
 unfold hashByValue
 refine wpAny_bind (wpAny_specialOf hT F.slot_tuple_hash.lookup ?_)
 dsimp only
 refine wpAny_bind (wpAny_seqItems ho hd ?_)
 dsimp only[Option.getD_some]
 rw[<-Array.forIn_toList]
 refine wpAny_bind (wpAny_mono (wpAny_forIn_list _ (fun rest c s'=>s'=s/\c =(none,())/\∀v∈rest,v∈items.toList) (fun c s'=>s'=s/\(c =(none,())\/c =(some false,()))) ?_ ?_ _ _ ⟨rfl,rfl,fun _ z=>z⟩) ?_ fun _ _ q=>q)
 ·rintro v rest c s' ⟨rfl,rfl,hr⟩
  rw[hashByValue_scannable _ (hB v (Di hi v (hr v (List.mem_cons_self ..))))]
  refine wpAny_bind (wpAny_pure ?_)
  cases plainKind v with
  | true =>
   simp only[Bool.not_true,Bool.false_eq_true,if_false]
   exact wpAny_pure ⟨rfl,rfl,fun u hu=>hr u (List.mem_cons_of_mem _ hu)⟩
  | false =>
   simp only[Bool.not_false,if_true]
   exact wpAny_pure ⟨rfl,.inr rfl⟩
 ·rintro c s' ⟨rfl,rfl,_⟩
  exact⟨rfl,.inl rfl⟩
 ·rintro c s' ⟨rfl,rfl | rfl⟩
  ·exact wpAny_pure (h _)
  ·exact wpAny_pure (h _)
theorem U9{α:Type}(xs:Array α)(p:Nat)(x:α)(hp:p<=xs.size):(SetTable.insertAt xs p x).size=xs.size+1:=by
 unfold SetTable.insertAt
 rw[Array.size_append,Array.size_push,Array.size_extract,Array.size_extract]
 omega
theorem Au{α:Type}(xs:Array α)(p:Nat)(x:α)(hp:p<=xs.size):(SetTable.insertAt xs p x).toList.Perm (xs.toList ++ [x]):=by
 unfold SetTable.insertAt
 rw[Array.toList_append,Array.toList_push,Array.toList_extract,Array.toList_extract]
 simp only[List.extract_eq_take_drop,List.drop_zero,Nat.sub_zero]
 have e:List.take (xs.size-p) (List.drop p xs.toList)=List.drop p xs.toList:=by
  rw[List.take_of_length_le]
  rw[List.length_drop,Array.length_toList]
  omega
 rw[e]
 have e2:xs.toList=xs.toList.take p++xs.toList.drop p:=(List.take_append_drop ..).symm
 conv=>rhs;rw[e2]
 rw[List.append_assoc,List.append_assoc]
 exact List.Perm.append_left _ List.perm_append_comm
theorem T1(xs:Array Nat)(j:Nat):∀(f lo hi:Nat),lo<=hi->SetTable.below.go xs j f lo hi<=hi
 | 0,lo,hi,h=>h
 | f+1,lo,hi,h=>by
  unfold SetTable.below.go
  split
  ·rename_i h'
   dsimp only
   split
   ·exact T1 xs j f _ _ (by omega)
   ·exact Nat.le_trans (T1 xs j f _ _ (by omega)) (by omega)
  ·exact h
theorem Pb(xs:Array Nat)(j:Nat):SetTable.below xs j<=xs.size:=T1 xs j _ _ _ (Nat.zero_le _)
theorem Vd{t:SetTable}(hd:t.dummies = #[])(j:Nat):t.put j =({ t with place:=SetTable.insertAt t.place (SetTable.below t.place j) j },SetTable.below t.place j):=by
 unfold SetTable.put
 have:SetTable.has t.dummies j=false:=by
  rw[hd];unfold SetTable.has;simp
 rw[this]
 rfl
theorem Yi:SetTable.sizeAbove 20=32:=by decide
theorem Zd:SetTable.sizeAbove 76=128:=by decide
theorem Xo:SetTable.sizeAbove 308=512:=by decide
theorem Ot{f:Array (Int×Value)->Option (SetTable×Array Nat)->Sem (Array (Int×Value)×SetTable)}(hf:∀es laid,f es laid =(do
  let some (t,order):=laid | unsupported "internal:set-table-without-room"
  let es':=order.filterMap (es[·]?)
  if es'.size != es.size then unsupported "internal:set-table-lost-an-element"
  pure (es',t)))
  {a:Addr} {o:Obj} {es:Array (Int×Value)} {ep:Nat} {t:SetTable} {n m:Nat} {Q:Unit->Shared->Prop} (ho:s.heap.get? a=some o) (hd:o.data = .set es ep t) (hdm:t.dummies = #[]) (hfit:t.fits es.size=true)
  (hm:SetTable.sizeAbove n=m+1) (hmm:Msk m) (hsz:es.size*5<m*3)
  (h:∀(es':Array (Int×Value)) (t':SetTable),es'.toList.Perm es.toList->Tab t' es'.size->Q () { s with heap:=s.heap.update a (Obj.putSet es' t') }) :
  wpAny (model prog w) A (do
   let(es,_,t) <-setState a
   if SetTable.sizeAbove n>sizeLine then unsupported "set:memory"
   let(es,t) <-f es (t.relaid (es.map (·.1)) n)
   storeSet a es t) Q E s:=by
 refine wpAny_bind (wpAny_setState_of ho hd hfit ?_)
 dsimp only
 have hm512:m<=511:=by rcases hmm with e | e | e | e<;>omega
 rw[hm,if_neg (by rw[sizeLine_eq];omega)]
 rw[hf]
 have hs:(es.map (·.1)).size<=m:=by rw[Array.size_map];omega
 obtain⟨place,order,e1,e2,e3⟩:=Ta hmm t.finger (t.movedTo (SetTable.sizeAbove n-1)) t.led t.plain (es.map (·.1)) hs
 have e0:t.relaid (es.map (·.1)) n=some ({ mask:=m,place,dummies:=#[],finger:=t.finger,led:=t.led,moves:=t.movedTo (SetTable.sizeAbove n-1),plain:=t.plain },order):=by
  unfold SetTable.relaid
  rw[hm]
  rw[hm]at e1
  exact e1
 rw[e0]
 dsimp only
 have hp:(order.filterMap (es[·]?)).toList.Perm es.toList:=Nn (by rw[Array.size_map]at e3;exact e3)
 have hz:(order.filterMap (es[·]?)).size=es.size:=by rw[<-Array.length_toList,hp.length_eq,Array.length_toList]
 rw[if_neg (by rw[hz];simp)]
 refine wpAny_bind (wpAny_pure ?_)
 dsimp only
 refine wpAny_storeSet_of ho hd (h _ _ hp ⟨rfl,?_,hmm,?_⟩) (by rw[hz,sizeLine_eq];omega)
 ·rw[hz,e2,Array.size_map]
 ·rw[hz];exact hsz
theorem Mm{h:Heap}{a:Addr}{o:Obj}{es:Array (Int×Value)}{ep:Nat}{t:SetTable}(ho:h.get? a=some o)(hd:o.data = .set es ep t)(es':Array (Int×Value))(t':SetTable) :
  (h.update a (Obj.putSet es' t')).get? a=some { o with data:=.set es' (ep+1) t' }:=by
 have:=Heap.get?_update_self (Obj.putSet es' t') ho (by rw[putSet_of es' t' hd];rfl)
 rw[putSet_of es' t' hd]at this;exact this
theorem Ip{a:Addr}{ks:List (List K×Addr)}{kx:List K}{px:Addr}{Q:Bool->Shared->Prop}(hr:(tupleKind knd).room A)(hF:Flat knd)(hB:Scan knd)(hS:TSet knd s.heap a ks)
  (hks:∀q∈ks,(tupleKind knd).is s.heap q.1 q.2) (hx:(tupleKind knd).is s.heap kx px) (hne:∀q∈ks,q.1≠kx) (hl:ks.length+1<=300)
  (h:∀h',Heap.SameBut a s.heap h'->TSet knd h' a (ks ++ [(kx,px)])->Q true { s with heap:=h' }) :
  wpAny (model prog w) A (setAddHashed a (.ref px) ((tupleKind knd).hash kx)) Q E s:=by
 obtain⟨o,es,ep,t,ho,hex,hd,hE,hT⟩:=hS
 have hsz:es.size=ks.length:=by
  have:=hE.length_eq
  rw[Array.length_toList,List.length_map]at this;exact this
 unfold setAddHashed setAddHashedIn
 refine wpAny_holding ?_
 refine wpAny_bind (wpAny_setState_of ho hd hT.fits ?_)
 dsimp only
 rw[Mf]
 simp only[Bool.false_eq_true,if_false]
 refine wpAny_bind (i9 hr hF ho hd hE hT hks hx hne fun j hj=>?_)
 dsimp only
 refine wpAny_bind (wpAny_setState_of ho hd hT.fits ?_)
 dsimp only
 rw[Vd hT.dm]
 dsimp only
 have hb:=Pb t.place j
 have hb':SetTable.below t.place j<=es.size:=by rw[hT.pl]at hb;exact hb
 have hrm:=hT.rm
 have hmm:=hT.mm
 have hsz1:=U9 es (SetTable.below t.place j) ((tupleKind knd).hash kx,Value.ref px) hb'
 have hpm:=Au es (SetTable.below t.place j) ((tupleKind knd).hash kx,Value.ref px) hb'
 have hE1:∀es':Array (Int×Value),es'.toList.Perm (SetTable.insertAt es (SetTable.below t.place j) ((tupleKind knd).hash kx,Value.ref px)).toList->Els knd es' (ks ++ [(kx,px)]):=fun es' hp=>by
  unfold Els
  rw[List.map_append]
  exact hp.trans (hpm.trans (hE.append_right _))
 have key:∀t1:SetTable,t1.dummies = #[]->t1.mask=t.mask->t1.place.size=es.size+1->wpAny (model prog w) A (do
   storeSet a (SetTable.insertAt es (SetTable.below t.place j) ((tupleKind knd).hash kx,Value.ref px)) t1
   if(!false&&t1.tooFull)=true then do
    setRelay a (SetTable.grown (es.size+1))
    pure true
   else pure true) Q E s:=by
  intro t1 d1 m1 p1
  refine wpAny_bind (wpAny_storeSet_of ho hd ?_ (by rw[hsz1,sizeLine_eq];omega))
  have ho1:=Mm ho hd (SetTable.insertAt es (SetTable.below t.place j) ((tupleKind knd).hash kx,Value.ref px)) t1
  have sb1:=Heap.SameBut.update s.heap a (Obj.putSet (SetTable.insertAt es (SetTable.below t.place j) ((tupleKind knd).hash kx,Value.ref px)) t1)
  have htf:t1.tooFull=decide ((es.size+1)*5 ≥ t.mask*3):=by
   unfold SetTable.tooFull SetTable.fill
   rw[d1,m1,p1]
   rfl
  rw[htf,Bool.not_false,Bool.true_and]
  by_cases hfull:(es.size+1)*5 ≥ t.mask*3
  ·rw[decide_eq_true hfull,if_pos rfl]
   have hcase:∃m,SetTable.sizeAbove (SetTable.grown (es.size+1))=m+1/\Msk m/\(es.size+1)*5<m*3:=by
    have hg:SetTable.grown (es.size+1) =(es.size+1)*4:=by
     unfold SetTable.grown
     rw[if_neg (by omega)]
    rw[hg]
    rcases hmm with e | e | e | e
    ·have:es.size+1=5:=by omega
     rw[this]
     exact⟨31,Yi,.inr (.inl rfl),by decide⟩
    ·have:es.size+1=19:=by omega
     rw[this]
     exact⟨127,Zd,.inr (.inr (.inl rfl)),by decide⟩
    ·have:es.size+1=77:=by omega
     rw[this]
     exact⟨511,Xo,.inr (.inr (.inr rfl)),by decide⟩
    ·omega
   obtain⟨m,c1,c2,c3⟩:=hcase
   refine wpAny_bind ?_
   unfold setRelay
   refine Ot (fun _ _=>rfl) (s:={ s with heap:=_ }) ho1 rfl d1 ?_ c1 c2 (by rw[hsz1];exact c3) fun es' t' hp ht=>?_
   ·unfold SetTable.fits SetTable.fill
    rw[hsz1,p1,d1,m1]
    have h300:es.size+1+0<=t.mask:=by rcases hmm with e | e | e | e<;>omega
    simp
    omega
   ·refine wpAny_pure (h _ (sb1.trans (Heap.SameBut.update _ a _)) ?_)
    exact⟨_,es',_,t',Mm ho1 rfl es' t',hex,rfl,hE1 es' hp,ht⟩
  ·rw[decide_eq_false hfull,if_neg (by decide)]
   refine wpAny_pure (h _ sb1 ⟨_,_,_,t1,ho1,hex,rfl,hE1 _ (.refl _),⟨d1,?_,?_,?_⟩⟩)
   ·rw[p1,hsz1]
   ·rw[m1];exact hmm
   ·rw[m1,hsz1];omega
 have hps:(SetTable.insertAt t.place (SetTable.below t.place j) j).size=es.size+1:=by rw[U9 _ _ _ hb,hT.pl]
 cases hpl:t.plain with
 | true =>
  simp only[if_true]
  refine wpAny_bind (hbv hB hx fun b=>?_)
  cases b with
  | true =>
   simp only[if_true]
   exact key _ hT.dm rfl hps
  | false =>
   simp only[Bool.false_eq_true,if_false]
   exact key _ hT.dm rfl hps
 | false =>
  simp only[Bool.false_eq_true,if_false]
  refine wpAny_bind (wpAny_pure ?_)
  simp only[if_true]
  exact key _ hT.dm rfl hps
theorem call_add{a:Addr}{ks:List (List K×Addr)}{kx:List K}{px:Addr}{Q:Value->Shared->Prop}(hr:A.units+1<cLine)(hF:Flat knd)(hB:Scan knd)(hS:TSet knd s.heap a ks)
  (hks:∀q∈ks,(tupleKind knd).is s.heap q.1 q.2) (hx:(tupleKind knd).is s.heap kx px) (hne:∀q∈ks,q.1≠kx) (hl:ks.length+1<=300)
  (h:∀h',Heap.SameBut a s.heap h'->TSet knd h' a (ks ++ [(kx,px)])->Q .none { s with heap:=h',toks:=s.toks +(tupleKind knd).draws kx }) :
  wpAny (model prog w) A (call (.builtin "set.add") [.ref a,.ref px]) Q E s:=by
 refine wpAny_call_entry F.slot_set_add hS.typeIs F.entry_set_add ?_ (F.args_set_add_2 _ _)
 unfold Builtin.«set.add» Builtin.Frozenset.oneOther
 simp only[List.isEmpty_nil,bind_assoc]
 unfold Builtin.Frozenset.addrOf setAdd
 refine wpAny_bind (wpAny_pure ?_)
 try dsimp only
 refine wpAny_bind (wpAny_pure ?_)
 try dsimp only
 refine wpAny_bind ?_
 refine wpAny_holding ?_
 refine wpAny_bind ((tupleKind knd).pyHash ?hroom hx ?_)
 case hroom=>exact hr
 refine Ip (s:={ s with toks:=s.toks +(tupleKind knd).draws kx }) ?hroom hF hB hS hks hx hne hl fun h' hsb hS'=>?_
 case hroom=>exact hr
 show wpAny _ _ (ret Value.none) _ _ _
 exact wpAny_pure ⟨_,rfl,h h' hsb hS'⟩
end
section
variable{prog:Program}{w:World}{A:Around}{E:Value->Shared->Prop}{s:Shared}
theorem erase_perm{α:Type}:∀{l:List α} {i:Nat} {x:α},l[i]?=some x->(x::l.eraseIdx i).Perm l
 | [],i,x,h=>by simp at h
 | y::l,0,x,h=>by
  have:y=x:=by simpa using h
  subst this
  exact .refl _
 | y::l,i+1,x,h=>by
  have h':l[i]?=some x:=by simpa using h
  exact(List.Perm.swap y x _).trans ((erase_perm h').cons y)
structure SAt(w:World)(h:Heap)(a:Addr)(o:Obj)(es:Array (Int×Value))(ep:Nat)(t:SetTable):Prop where
 ho:h.get? a=some o
 ex:o.ExactSet
 hd:o.data = .set es ep t
 ft:t.fits es.size=true
 led:t.led=!(w.params.followText "set-order")
 pln:t.plain=true->es.size=0
 few:es.size<4096
variable{a it:Addr}{o:Obj}{es:Array (Int×Value)}{ep:Nat}{t:SetTable}
end
end ST
namespace ST
open PySem L2
noncomputable def Yt:Value->Str
 | .str x _=>x
 | _=>Str.empty
section
variable{prog:Program}{w:World}{A:Around}{E:Value->Shared->Prop}{s:Shared}{a:Addr}
structure TxtEs(w:World)(es:Array (Int×Value))(ss:List Str):Prop where
 el:∀e∈es.toList,∃x tk,e =(hashStr w x,Value.str x tk)
 pm:(es.toList.map fun e=>Yt e.2).Perm ss
 nd:ss.Nodup
noncomputable def WS(w:World)(h:Heap)(a:Addr)(ss:List Str):Prop:=∃o es ep t,SAt w h a o es ep t/\TxtEs w es ss
end
end ST
namespace L2
open PySem PySem.Spec PyProof.Rows
noncomputable def Wo(w:World)(a:Addr)(ss:List Str):HO:=.ext fun h=>ST.WS w h a ss
section
variable{X:Cx}{pins:List (Addr×Obj)}{σ:St}{H:Hp}{s:Shared}{a:Addr}{ss:List Str}
theorem Inv.setw(I:Inv X pins σ H s)(e:H a=some (Wo X.w a ss)):ST.WS X.w s.heap a ss:=by
 obtain⟨z,_⟩:=(show ObjOk X.prog X.w H s.heap a (Wo X.w a ss)from I.hok a _ e)
 exact z
end
noncomputable def Jg(P:Program)(w:World)(a:Addr)(ks:List (List Key×Addr)):HO:=.ext fun h=>ST.TSet (C0 P w) h a ks
noncomputable def Gy(H:Hp)(ks:List (List Key×Addr)):Prop:=∀q∈ks,H q.2=some (.tup (q.1.map kV))
section
variable{X:Cx}{pins:List (Addr×Obj)}{σ:St}{H:Hp}{s:Shared}{a:Addr}{ks:List (List Key×Addr)}
theorem Gg(P:Program)(w:World):ST.Flat (C0 P w):=fun v ⟨x,h⟩=>(C0 P w).byValue x v h
theorem Oq(P:Program)(w:World):ST.Scan (C0 P w):=fun v ⟨x,h⟩=>by
 rcases D6 (show Ck x v=true from h)with⟨i,t,_,rfl⟩ | ⟨y,t,_,rfl⟩<;>rfl
theorem Qr{P:Program}{w:World}{H:Hp}{h:Heap}(z:ST.TSet (C0 P w) h a ks):ObjOk P w H h a (Jg P w a ks) :=
 ⟨z,let⟨o,_,_,_,e,_⟩:=z;⟨o,e⟩,fun h1 h2 ⟨o,es,ep,t,e,r⟩ k=>⟨o,es,ep,t,k o e,r⟩⟩
theorem Inv.sett(I:Inv X pins σ H s)(e:H a=some (Jg X.prog X.w a ks)):ST.TSet (C0 X.prog X.w) s.heap a ks:=by
 obtain⟨z,_⟩:=(show ObjOk X.prog X.w H s.heap a (Jg X.prog X.w a ks)from I.hok a _ e)
 exact z
theorem Im:E7 X (.type "set") (fun xs H Q=>xs = []/\∀p,H p=none->Q (.ref p) (upd H p (Jg X.prog X.w p []))):=by
 intro pins s σ H xs us Q I r h
 obtain⟨rfl,q⟩:=h
 cases r
 refine call_set_0 fun led=>⟨.ref s.heap.objs.size,_,I.laid (t':=s.toks) (fun b o e=>Heap.get?_push_of_some _ e) (Nat.le_refl _) (Qr ?_),rfl,q _ (I.hok.fresh (Nat.le_refl _))⟩
 exact⟨_,#[],0,_,Heap.get?_push_size _ rfl,⟨rfl,rfl,rfl⟩,rfl,.refl _,⟨rfl,rfl,.inl rfl,by show 0*5<7*3;decide⟩⟩
noncomputable def Xx(P:Program)(w:World):R2:=fun x y H Q=>∃a p ks k,y = .ref a/\x = .ref p/\H a=some (Jg P w a ks)/\H p=some (.tup (k.map kV))/\Gy H ks/\(∀q∈ks,q.1≠k)/\Q (.bl false) H
theorem Io(hu:X.A.units+1<cLine):OpR X (compareOp .In) (Xx X.prog X.w):=by
 intro pins s σ H x y v u Q I rx ry h
 obtain⟨a,p,ks,k,rfl,rfl,hH,hp,ht,hn,q⟩:=h
 cases ry
 cases rx
 exact ST.in_free (neg:=false) hu (Gg _ _) (I.sett hH) (fun z hz=>y9 I.hok (ht z hz)) (y9 I.hok hp) hn ⟨.bl false,H,I.tok _,rfl,q⟩
noncomputable def Uc(P:Program)(w:World):V->List V->Hp->VK->Prop:=fun x vs H Q=>∃a p ks k,x = .ref a/\vs = [.ref p]/\H a=some (Jg P w a ks)/\H p=some (.tup (k.map kV))/\Gy H ks/\(∀q∈ks,q.1≠k)/\ks.length+1<=300/\Q .non (upd H a (Jg P w a (ks ++ [(k,p)])))
theorem Rc(hu:X.A.units+1<cLine):MtM X "set.add" (Uc X.prog X.w):=by
 intro pins s σ H x vs v us Q I rx rv h
 obtain⟨a,p,ks,k,rfl,rfl,hH,hp,ht,hn,hl,q⟩:=h
 cases rx
 obtain⟨u,rfl,ru⟩:=rv.one
 cases ru
 refine ST.call_add hu (Gg _ _) (Oq _ _) (I.sett hH) (fun z hz=>y9 I.hok (ht z hz)) (y9 I.hok hp) hn hl fun h' hs z=>?_
 exact⟨.non,_,I.write (x:=a) (e:=a) (by rw[hH];exact True.intro) (.inl rfl) (fun b q hb e=>(hs.2 b hb).trans e) (let⟨o,_,_,_,e,_⟩:=z;⟨o,e⟩) (Qr z),rfl,q⟩
end
section
variable{X:Cx}
theorem Jp:E7 X (.builtin "isinstance") (fun xs H Q=>∃x n t b,xs = [x,.ty n]/\TyOf X.K H x t/\PySem.W.kitOne X.K t (.type n)=some b/\Q (.bl b) H):=by
 intro pins s σ H xs us Q I r h
 obtain⟨x,n,t,b,rfl,ht,he,q⟩:=h
 obtain⟨u,v,rfl,ru,rv⟩:=r.two
 cases rv
 exact Mh I ru ht he fun tk=>⟨.bl b,H,I.tok _,rfl,q⟩
end
mutual
noncomputable def Rp(K:PySem.W.Frag)(H:Hp):PyData->V->Prop
 | .none,v=>v = .non
 | .bool b,v=>v = .bl b
 | .int i,v=>v = .int i
 | .str x,v=>v = .str x
 | .list ds,v=>∃a xs,v = .ref a/\SqL K H a xs/\Rps K H ds xs
 | .tuple ds,v=>∃a xs,v = .ref a/\SqT K H a xs/\Rps K H ds xs
 | .dict _,_=>False
noncomputable def Rps(K:PySem.W.Frag)(H:Hp):List PyData->List V->Prop
 | [],vs=>vs = []
 | d::ds,vs=>∃v r,vs=v::r/\Rp K H d v/\Rps K H ds r
end
section
variable{X:Cx}{pins:List (Addr×Obj)}{σ:St}{H:Hp}{s:Shared}
mutual
theorem Inv.reads(I:Inv X pins σ H s):∀(d:PyData) (v:V) (u:Value),Rp X.K H d v->RelV v u->∃as,Reads s.heap u d as
 | .none,v,u,h,r=>by
  cases(show v = .non by simpa [Rp] using h)
  cases r
  exact⟨_,.none⟩
 | .bool b,v,u,h,r=>by
  cases(show v = .bl b by simpa [Rp] using h)
  cases r
  exact⟨_,.bool b⟩
 | .int i,v,u,h,r=>by
  cases(show v = .int i by simpa [Rp] using h)
  obtain⟨t,rfl⟩:=r
  exact⟨_,.int i t⟩
 | .str x,v,u,h,r=>by
  cases(show v = .str x by simpa [Rp] using h)
  obtain⟨t,rfl⟩:=r
  exact⟨_,.str x t⟩
 | .list ds,v,u,h,r=>by
  obtain⟨a,xs,e,hq,hs⟩:=(show ∃a xs,v=V.ref a/\SqL X.K H a xs/\Rps X.K H ds xs by simpa [Rp] using h)
  subst e
  cases r
  obtain⟨its,rv,⟨o,n,e,hc,hd,hda⟩,_⟩:=I.list hq
  obtain⟨as,z⟩:=I.readsAll ds xs its hs rv
  exact⟨_,.list e hc hda (by simpa using z)⟩
 | .tuple ds,v,u,h,r=>by
  obtain⟨a,xs,e,hq,hs⟩:=(show ∃a xs,v=V.ref a/\SqT X.K H a xs/\Rps X.K H ds xs by simpa [Rp] using h)
  subst e
  cases r
  obtain⟨its,rv,⟨o,e,hc,n,hda⟩,_⟩:=I.tuple hq
  obtain⟨as,z⟩:=I.readsAll ds xs its hs rv
  exact⟨_,.tuple e hc hda (by simpa using z)⟩
 | .dict _,v,u,h,r=>by simp[Rp]at h
theorem Inv.readsAll(I:Inv X pins σ H s):∀(ds:List PyData) (vs:List V) (us:List Value),Rps X.K H ds vs->Vals vs us->∃as,ReadsAll s.heap us ds as
 | [],vs,us,h,r=>by
  cases(show vs = [] by simpa [Rps] using h)
  cases r
  exact⟨_,.nil⟩
 | d::ds,vs,us,h,r=>by
  obtain⟨v,vr,e,h1,h2⟩:=(show ∃v r,vs=v::r/\Rp X.K H d v/\Rps X.K H ds r by simpa [Rps] using h)
  subst e
  cases r with
  | cons r1 r2 =>
   obtain⟨as,z⟩:=I.reads d v _ h1 r1
   obtain⟨bs,z'⟩:=I.readsAll ds vr _ h2 r2
   exact⟨_,.cons z z'⟩
end
noncomputable def Pl(d:PyData):Prop:=d.canLay0=true/\d.depth<=50
noncomputable def Ww(K:PySem.W.Frag):R2:=fun x y H Q=>∃d e,Rp K H d x/\Rp K H e y/\Pl d/\Pl e/\Q (.bl (!PyData.eqv d e)) H
theorem Uk(hu:X.A.units+64<cLine):OpR X (compareOp .NotEq) (Ww X.K):=by
 intro pins s σ H x y v u Q I rx ry h
 obtain⟨d,e,h1,h2,p1,p2,q⟩:=h
 obtain⟨as,z1⟩:=I.reads d x v h1 rx
 obtain⟨bs,z2⟩:=I.reads e y u h2 ry
 exact PySem.SeqAt.compareNe_reads z1 z2 p1.1 p2.1 (by have:=p1.2;have:=p2.2;omega) ⟨.bl (!PyData.eqv d e),H,I,rfl,q⟩
noncomputable def Wy(K:PySem.W.Frag)(neg:Bool):R2:=fun x y H Q=>∃d ds,Rp K H d x/\(Rp K H (.list ds) y\/Rp K H (.tuple ds) y)/\Pl d/\PyData.canLayAll0 ds=true/\Q (.bl (if neg then !(ds.any fun z=>PyData.eqv z d)else ds.any fun z=>PyData.eqv z d)) H
theorem Jo(hu:X.A.units+64<cLine):OpR X (compareOp .NotIn) (Wy X.K true):=by
 intro pins s σ H x y v u Q I rx ry h
 obtain⟨d,ds,h1,h2,p1,p2,q⟩:=h
 obtain⟨as,z1⟩:=I.reads d x v h1 rx
 have hu':X.A.units+1+min (PyData.depthAll ds) d.depth<cLine:=by have:=p1.2;omega
 rcases h2 with h2 | h2
 ·obtain⟨bs,z2⟩:=I.reads (.list ds) y u h2 ry
  exact PySem.SeqAt.notIn_list_reads z2 z1 p2 p1.1 hu' ⟨.bl _,H,I,rfl,q⟩
 ·obtain⟨bs,z2⟩:=I.reads (.tuple ds) y u h2 ry
  exact PySem.SeqAt.notIn_tuple_reads z2 z1 p2 p1.1 hu' ⟨.bl _,H,I,rfl,q⟩
end
section
variable{X:Cx}
theorem Vals.insert{xs:List V}{us:List Value}{x:V}{u:Value}(h:Vals xs us)(r:RelV x u)(k:Nat):Vals (xs.take k++x::xs.drop k) (us.take k++u::us.drop k):=(h.take k).append (.cons r (h.drop k))
noncomputable def Rj:V->List V->Hp->VK->Prop:=fun x vs H Q=>∃l xs i k y,x = .ref l/\vs = [.int i,y]/\i =((k:Nat):Int)/\H l=some (.lst xs)/\k<=xs.length/\xs.length<sizeLine/\Q .non (upd H l (.lst (xs.take k++y::xs.drop k)))
theorem Wt{k:Nat}{i:Int}(e:i =(k:Int))(h:k<=sizeLine):¬(!Builtin.List.listFitsIndex i)=true:=by
 rw[sizeLine_eq]at h
 have h1:-(2^63:Int)<=i:=by omega
 have h2:i<2^63:=by omega
 have:=fitsIndex_both h1 h2
 simpa using this
theorem Lv:MtM X "list.insert" Rj:=by
 intro pins s σ H x vs v us Q I rx rv h
 obtain⟨l,xs,i,k,y,rfl,rfl,hi,hH,hk,hz,q⟩:=h
 cases rx
 obtain⟨u1,u2,rfl,⟨t,rfl⟩,ru⟩:=rv.two
 obtain⟨z,its,n,r,hl,e⟩:=I.lstM hH
 have h0:k<=sizeLine:=by omega
 have h1:=Wt hi h0
 have h2:its.toArray.size<=sizeLine:=by rw[List.size_toArray];omega
 have hM:=@PySem.AutoListH.list_insert_list_int_val_1 l its.toArray n i t u2 h1 h2
 refine call_meets F.slot_list_insert ⟨_,e,rfl⟩ F.entry_list_insert (F.args_list_insert_3 _ _ _) hM ⟨e,?_⟩
 refine⟨.non,_,I.lset (its':=its.take k++u2::its.drop k) hH e ?_ (r.insert ru k) ?_,rfl,q⟩
 ·have hmin:min k its.length=k:=by omega
  have hn:¬((k:Int)<0):=by omega
  subst hi
  have hneg:¬((k:Int)+0<0):=by omega
  have e3:List.take (its.length-k) (List.drop k its)=List.drop k its:=List.take_of_length_le (by simp)
  simp[hmin,hn,e3]
 ·rw[List.length_append,List.length_cons,List.length_take,List.length_drop]
  omega
noncomputable def Lm(K:PySem.W.Frag):V->List V->Hp->VK->Prop:=fun x vs H Q=>∃(l:Addr) (ss:List Str) (y:Str) (j:Nat),x = .ref l/\vs = [.str y]/\SqL K H l (ss.map V.str)/\ss[j]?=some y/\(∀m,m<j->ss[m]?≠some y)/\Q (.int (j:Nat)) H
theorem Q4{ss:List Str}{us:List Value}(h:Vals (ss.map V.str) us){i:Nat}(hi:i<us.length):∃x t,ss[i]?=some x/\us[i] = .str x t:=by
 have hl:=h.length
 rw[List.length_map]at hl
 obtain⟨x,hx⟩:∃x,ss[i]?=some x:=⟨ss[i]'(by omega),List.getElem?_eq_getElem (by omega)⟩
 obtain⟨u,hu,t,rfl⟩:=h.get (i:=i) (x:=.str x) (by rw[List.getElem?_map,hx];rfl)
 refine⟨x,t,hx,?_⟩
 have:=List.getElem?_eq_getElem hi
 rw[hu]at this
 exact(Option.some.inj this).symm
theorem Ky:MtM X "list.index" (Lm X.K):=by
 intro pins s σ H x vs v us Q I rx rv h
 obtain⟨l,ss,y,j,rfl,rfl,hq,hj,hno,q⟩:=h
 cases rx
 obtain⟨u,rfl,⟨tk,rfl⟩⟩:=rv.one
 obtain⟨its,r,⟨o,n,e,hc,hd,hda⟩,hz⟩:=I.list hq
 have hlen:=r.length
 rw[List.length_map]at hlen hz
 have hjl:j<its.length:=by
  have:=(List.getElem?_eq_some_iff.mp hj).1
  omega
 obtain⟨cls,dd,data,sl⟩:=o
 simp only at hc hd hda
 subst hc hda
 let ev:Value->Bool:=fun v=>match v with | .str x _=>x == y | _=>false
 have hM:=PySem.SeqAt.list_indexAt l its.toArray n dd sl (.str y tk) ev j (by simpa using hjl) (by rw[sizeLine_eq]at hz;omega) ?_ ?_
 ·refine call_meets F.slot_list_index ⟨_,e,rfl⟩ F.entry_list_index (F.args_list_index_2 _ _) hM ⟨e,?_,?_⟩
  ·intro v hv
   have hv':v∈its:=by simpa using hv
   obtain⟨i,hi,rfl⟩:=List.getElem_of_mem hv'
   obtain⟨x,t,_,e2⟩:=Q4 r hi
   rw[e2]
   exact PySem.SeqAt.EqAt.str_str x t y tk
  ·exact⟨.int (j:Nat),H,I.tok _,⟨_,rfl⟩,q⟩
 ·obtain⟨x,t,e1,e2⟩:=Q4 r hjl
  rw[hj]at e1
  cases e1
  show ev (its.toArray[j]'(by simpa using hjl))=true
  rw[show its.toArray[j]'(by simpa using hjl)=its[j]from by simp,e2]
  exact beq_self_eq_true y
 ·intro m hm hmj
  have hm':m<its.length:=by simpa using hm
  obtain⟨x,t,e1,e2⟩:=Q4 r hm'
  show ev (its.toArray[m]'hm)=false
  rw[show its.toArray[m]'hm=its[m]from by simp,e2]
  show(x == y)=false
  rw[beq_eq_false_iff_ne]
  rintro rfl
  exact hno m hmj e1
noncomputable def Qh:V->List V->Hp->VK->Prop:=fun x vs H Q=>∃z y ps,x = .str z/\vs = [.str y]/\(decide (z.length<y.length)||decide (Builtin.Str.strKind z<Builtin.Str.strKind y))=false/\(y.length == 0)=false /\
 (Builtin.Str.occurrences z y 0 z.length (z.length+1)).isEmpty=false/\z.length<=4000/\Builtin.Str.partsBetween z (Builtin.Str.occurrences z y 0 z.length (z.length+1)) y.length=ps/\ps.length<=4000/\∀l,H l=none->Q (.ref l) (upd H l (.lst (ps.map V.str)))
theorem Cd:∀(ps:List Str) (tk:Nat),Vals (ps.map V.str) (strsFrom tk ps)
 | [],_=>.nil
 | _::r,tk=>.cons ⟨tk,rfl⟩ (Cd r (tk+1))
theorem Nj:MtM X "str.split" Qh:=by
 intro pins s σ H x vs v us Q I rx rv h
 obtain⟨z,y,ps,rfl,rfl,h1,h2,h3,h4,rfl,h6,q⟩:=h
 obtain⟨t,rfl⟩:=rx
 obtain⟨u,rfl,⟨tk,rfl⟩⟩:=rv.one
 have hz:z.length<=sizeLine:=by rw[sizeLine_eq];omega
 have hp:(Builtin.Str.partsBetween z (Builtin.Str.occurrences z y 0 z.length (z.length+1)) y.length).length<=sizeLine:=by rw[sizeLine_eq];omega
 refine call_meets F.slot_str_split (typeIs_str _ _ _) F.entry_str_split (F.args_str_split_2 _ _) (PySem.meets_str_split_sep z y t tk h1 h2 h3 hz hp) ?_
 exact⟨.ref s.heap.objs.size,_,I.lnew (Cd _ _) (by rw[List.length_map];exact hp),rfl,q _ I.fresh⟩
end
end L2
namespace L2
open PySem PySem.Spec PyProof.Rows
structure Fn(K:PySem.W.Frag)(mg:Str->Option Value)(x:Str)(st:Stmt)(ps:List Str) where
 f:Addr
 fd:FuncData
 F:Fun K x x st f fd
 b:Binds K fd ps []
 m:mg x=some (.ref f)
structure Mt(K:PySem.W.Frag)(C:Addr)(m qual:Str)(st:Stmt)(ps:List Str) where
 f:Addr
 fd:FuncData
 F:Fun K m qual st f fd
 b:Binds K fd ps []
 m:Meth K C m f
section
variable{X:Cx}
theorem D9{x:Str}{st:Stmt}{ps:List Str}{k:Nat}{sp:Sp}{e:Expr}{es:List Expr}{t:TA}{p pos:Pos}(D:Fn X.K X.mg x st ps)(G:FnOk X.prog X.w X.K X.mg X.base CX0 k D.f D.fd ps sp)(hr:Room k X.A)(ha:PA X (e::es) t)
  (hg:Gl X x:=by rfl) (hdb:(x ==("__debug__":Str))=false:=by decide) (hs:starEach (e::es) X.env =(false,eval e X.env)::starEach es X.env:=by rfl) (hpl:(backTo pos (starEach es X.env)).any (·.1)=false:=by rfl) :
  PE X (.Call (.Name x p) (e::es) [] pos) (Jx sp [] E0 t):=Kf G hr hg D.m D.F.kp D.b .nil K5 ha hdb hs hpl
noncomputable def Lz(P:Program)(w:World)(x:V)(H:Hp):Prop:=∃p,x = .ref p/\((∃l,H p=some (Jf P w p l))\/(∃l,H p=some (Wo w p l))\/∃ks,H p=some (Jg P w p ks))
theorem Vn{pins:List (Addr×Obj)}{σ:St}{H:Hp}{s:Shared}{x:V}{v:Value}(I:Inv X pins σ H s)(r:RelV x v)(ty:Lz X.prog X.w x H):s.TypeIs v "set"/\∀a,v = .ref a->∃ob,s.heap.get? a=some ob/\ob.dict=none:=by
 obtain⟨p,rfl,h⟩:=ty
 cases r
 have z:∃o,s.heap.get? p=some o/\o.ExactSet:=by
  rcases h with⟨l,h⟩ | ⟨l,h⟩ | ⟨l,h⟩
  ·obtain⟨o,_,_,_,e,ex,_⟩:=I.set h
   exact⟨o,e,ex⟩
  ·obtain⟨o,_,_,_,S,_⟩:=I.setw h
   exact⟨o,S.ho,S.ex⟩
  ·obtain⟨o,_,_,_,e,ex,_⟩:=I.sett h
   exact⟨o,e,ex⟩
 obtain⟨o,e,ex⟩:=z
 refine⟨⟨o,e,ex.1⟩,fun a e2=>?_⟩
 cases e2
 exact⟨o,e,ex.2.1⟩
noncomputable def Xy(P:Program)(w:World)(r:V->List V->Hp->VK->Prop)(to:TE)(t:TA):TE:=fun σ H Q=>to σ H fun x H1=>Lz P w x H1/\t σ H1 fun xs H2=>r x xs H2 Q
theorem Sd{o e:Expr}{to:TE}{t:TA}{apos cpos:Pos}{r:V->List V->Hp->VK->Prop}(hm:MtM X "set.add" r)(ho:PE X o to)(ha:PA X [e] t)
  (hbase:attributeBase o "add" X.env (eval o X.env)=eval o X.env:=by rfl)
  (hfew:((backTo cpos (starEach [e] X.env)).all (fun x=>!x.1) &&(backToKw cpos (keywordEach [] X.env)).all (fun x=>x.1.isSome)
   && decide ([e].length +([]:List Keyword).length +(if([]:List Keyword).isEmpty then 0 else 1)<30))=true:=by rfl)
  (hline:(apos.endLine == cpos.line)=true:=by rfl) (hs:starEach [e] X.env = [(false,eval e X.env)]:=by rfl) :
  PE X (.Call (.Attribute o "add" apos) [e] [] cpos) (Xy X.prog X.w r to t):=by
 intro pins s σ H Q I h
 refine wpAny_Call_method_late hbase hfew hline rfl (thn (ho pins s σ H _ I h) fun v s1 ⟨x,H1,I1,r1,ty,q1⟩=>?_)
 obtain⟨h1,h2⟩:=Vn I1 r1 ty
 refine⟨"set", "set.add",F.plainAttrs_set,F.slot_set_add,F.type_set_add,h1,h2,?_⟩
 have hA:=ha cpos pins s1 σ H1 _ I1 q1
 rw[hs]at hA⊢
 refine Calls.callWith_builtin rfl (Calls.evalArgs_plain ?_)
 exact thn hA fun us s2 ⟨vs,H2,I2,r2,q2⟩=>hm pins s2 σ H2 x vs v us Q I2 r1 r2 q2
theorem Vb{x:Str}{i:Int}{pos:Pos}(h:∃t,X.mg x=some (.int i t))(hg:Gl X x:=by rfl)(hd:(x ==("__debug__":Str))=false:=by decide):PE X (.Name x pos) (tC (.int i)):=by
 obtain⟨t,e⟩:=h
 exact Fe hg e ⟨t,rfl⟩ hd
theorem Wu{x y:Str}{pos:Pos}(h:∃t,X.mg x=some (.str y t))(hg:Gl X x:=by rfl)(hd:(x ==("__debug__":Str))=false:=by decide):PE X (.Name x pos) (tC (.str y)):=by
 obtain⟨t,e⟩:=h
 exact Fe hg e ⟨t,rfl⟩ hd
theorem Jr{x:Str}{n:String}{pos:Pos}(hm:X.mg x=none)(hv:bootBuiltins x=some (.type n))(hg:Gl X x:=by rfl)(hn:x≠ "__name__":=by decide)(hd:(x ==("__debug__":Str))=false:=by decide):PE X (.Name x pos) (tC (.ty n)) :=
 Tc hg hm hv rfl hn hd
theorem E2{x:Str}{id:String}{r:List V->Hp->VK->Prop}{e:Expr}{es:List Expr}{t:TA}{p pos:Pos}(hc:E7 X (.builtin id) r)(hm:X.mg x=none)(hv:bootBuiltins x=some (.builtin id))(ha:PA X (e::es) t)(hg:Gl X x:=by rfl)(hn:x≠ "__name__":=by decide)(hdb:(x ==("__debug__":Str))=false:=by decide)
  (hs:starEach (e::es) X.env =(false,eval e X.env)::starEach es X.env:=by rfl) (hpl:(backTo pos (starEach es X.env)).any (·.1)=false:=by rfl):PE X (.Call (.Name x p) (e::es) [] pos) (tCB r t):=Nw hc hg hm hv ha hn hdb hs hpl
theorem Ik{x:Str}{T:String}{r:List V->Hp->VK->Prop}{e:Expr}{es:List Expr}{t:TA}{p pos:Pos}(hc:E7 X (.type T) r)(hm:X.mg x=none)(hv:bootBuiltins x=some (.type T))(ha:PA X (e::es) t)(hg:Gl X x:=by rfl)(hn:x≠ "__name__":=by decide)(hdb:(x ==("__debug__":Str))=false:=by decide)
  (hs:starEach (e::es) X.env =(false,eval e X.env)::starEach es X.env:=by rfl) (hpl:(backTo pos (starEach es X.env)).any (·.1)=false:=by rfl):PE X (.Call (.Name x p) (e::es) [] pos) (tCB r t):=Kw hc hg hm hv ha hn hdb hs hpl
theorem K0{scope:Scope}{cl:List (Str×Addr)}{N':List Str}{cap:List (Option Nat)}(caps:Caps X scope cl N' cap)(cin:ClIn X cl)(clos:closureFor scope X.env=pure cl:=by rfl)(kind:scope.kind = .function:=by rfl)(nocell:∀y∈scope.names,y.2≠ .cell:=by decide +kernel)
  (loc:∀y∈scope.names,y.2 = .local->scope.names.lookup y.1=some .local:=by decide +kernel) (has:((relabel scope X.env).names.all fun y=>!(y.2 == .cell||y.2 == .free)||(cl.lookup y.1).isSome)=true:=by rfl):CScope X scope cl N' cap:=⟨kind,nocell,loc,clos,cin,has,caps⟩
theorem pgC{scope:Scope}{cl:List (Str×Addr)}{N':List Str}{pins:List (Addr×Obj)}{ex:List Addr}{s3:Shared}{H3:Hp}{x:Str}{pos:Pos}(i:Nat)(hN:N'.Nodup:=by decide +kernel)(hi:N'[i]?=some x:=by rfl)(hx:Loc (cxC X scope cl N' pins ex s3 H3).env.scope x:=by exact Or.inl rfl)
  (hf:(cxC X scope cl N' pins ex s3 H3).env.scope.names.lookup x=some .local:=by rfl):PG (cxC X scope cl N' pins ex s3 H3) (.Name x pos) (T4 i):=C4 (X:=cxC X scope cl N' pins ex s3 H3) hN hi hx (.inr hf)
end
theorem O8:bootBuiltins "len" = some (.builtin "len"):=by decide +kernel
theorem Cz:bootBuiltins "enumerate" = some (.type "enumerate"):=by decide +kernel
theorem Vj:bootBuiltins "min" = some (.builtin "min"):=by decide +kernel
theorem Ub:bootBuiltins "max" = some (.builtin "max"):=by decide +kernel
theorem Po:bootBuiltins "abs" = some (.builtin "abs"):=by decide +kernel
theorem J6:bootBuiltins "sorted" = some (.builtin "sorted"):=by decide +kernel
theorem Tu:bootBuiltins "int" = some (.type "int"):=by decide +kernel
theorem Qs:bootBuiltins "str" = some (.type "str"):=by decide +kernel
theorem T8:bootBuiltins "list" = some (.type "list"):=by decide +kernel
theorem Og:bootBuiltins "tuple" = some (.type "tuple"):=by decide +kernel
theorem Qt:bootBuiltins "set" = some (.type "set"):=by decide +kernel
theorem F0:bootBuiltins "isinstance" = some (.builtin "isinstance"):=by decide +kernel
theorem Gm:bootBuiltins "all" = some (.builtin "all"):=by decide +kernel
noncomputable def KeepAt(a:Addr)(H0 H:Hp):Prop:=∀o,H0 a=some o->H a=some o
noncomputable def Sm(D:List Addr)(H H':Hp):Prop:=∀b o,H b=some o->b∉D->H' b=some o
theorem Same.at{H0 H:Hp}(h:Same H0 H)(a:Addr):KeepAt a H0 H:=fun o e=>h a o e
theorem Same.new{H:Hp}{p:Addr}{o:HO}(h:H p=none):Same H (upd H p o):=fun b u e=>by rw[B5 (B0 e h)];exact e
theorem Same.upd{H0 H:Hp}{p:Addr}{o:HO}(s:Same H0 H)(h:H0 p=none):Same H0 (upd H p o):=fun b u e=>by rw[B5 (B0 e h)];exact s b u e
theorem Same.sm{D:List Addr}{H H':Hp}(h:Same H H'):Sm D H H':=fun b o e _=>h b o e
theorem Sm.refl(D:List Addr)(H:Hp):Sm D H H:=fun _ _ e _=>e
theorem Sm.trans{D:List Addr}{H H1 H2:Hp}(a:Sm D H H1)(b:Sm D H1 H2):Sm D H H2:=fun c o h n=>b c o (a c o h n) n
theorem Sm.new{D:List Addr}{H H1:Hp}{p:Addr}{o:HO}(a:Sm D H H1)(h:H1 p=none):Sm D H (L2.upd H1 p o):=fun b u e n=>by
 have:=a b u e n
 rw[B5 (B0 this h)];exact this
theorem Sm.upd{D:List Addr}{H H1:Hp}{p:Addr}{o:HO}(a:Sm D H H1)(h:p∈D):Sm D H (L2.upd H1 p o):=fun b u e n=>by
 rw[B5 (show b≠p from fun z=>n (by rw[z];exact h))];exact a b u e n
theorem Sm.updN{D:List Addr}{H H1:Hp}{p:Addr}{o:HO}(a:Sm D H H1)(h:H p=none):Sm D H (L2.upd H1 p o):=fun b u e n=>by rw[B5 (B0 e h)];exact a b u e n
theorem Sm.at{D:List Addr}{H H':Hp}(h:Sm D H H'){a:Addr}(n:a∉D):KeepAt a H H':=fun o e=>h a o e n
theorem Sm.none{D:List Addr}{H H':Hp}(h:Sm D H H'){a:Addr}(n:a∉D)(e:H' a=Option.none):H a=Option.none:=by
 cases q:H a with
 | none=>rfl
 | some o=>rw[h a o q n]at e;cases e
theorem KeepAt.seqL{K:PySem.W.Frag}{H H':Hp}{a:Addr}{xs:List V}(e:KeepAt a H H')(h:SqL K H a xs):SqL K H' a xs:=by
 rcases h with(h | ⟨o,h⟩) | h
 ·exact .inl (.inl (e _ h))
 ·exact .inl (.inr ⟨o,e _ h⟩)
 ·exact .inr h
noncomputable def Sqs(K:PySem.W.Frag)(H:Hp)(a:Addr)(xs:List V):Prop:=SqL K H a xs\/SqT K H a xs
structure AsSeq(J:It)(xs:List V)(a:Addr)(H0:Hp):Prop where
 go:∀H i,KeepAt a H0 H->i<xs.length->J.go i H
 stop:∀H,KeepAt a H0 H->J.stop xs.length H
 yld:∀H i x H',KeepAt a H0 H->i<xs.length->J.yld i H x H'->H'=H/\xs[i]?=some x
theorem asL{K:PySem.W.Frag}{H0:Hp}{a:Addr}{xs:List V}(h:SqL K H0 a xs):AsSeq (Itl K a) xs a H0 :=
 ⟨fun H i k hi=>⟨xs,xs[i],k.seqL h,List.getElem?_eq_getElem hi⟩,fun H k=>⟨xs,k.seqL h,Nat.le_refl _⟩,fun H i x H' k hi ⟨e,y⟩=>⟨e,y xs (k.seqL h)⟩⟩
theorem Sn{J:It}{n:Nat}{g:TG}{tb:TS}{D:Ends}{σ:St}{H:Hp}(Pv:Nat->St->Hp->Prop)(h0:Pv 0 σ H)(hgo:∀i σ H,i<n->Pv i σ H->J.go i H)(hst:∀σ H,Pv n σ H->J.stop n H)
  (hs:∀i σ H x H',i<n->Pv i σ H->J.yld i H x H'->g x σ H' fun σ2 H2=>tb { D with nx:=Pv (i+1),ct:=Pv (i+1),bk:=D.nx } σ2 H2) (hd:∀σ H,Pv n σ H->D.nx σ H) :
  ∃W:Nat->Nat->St->Hp->Prop,(∃m,W 0 m σ H)/\∀i m σ H,W i m σ H ->
   (J.stop i H/\D.nx σ H)\/(J.go i H/\∃N:St->Hp->Prop,(∀σ' H',N σ' H'->∃m',m' < m/\W (i+1) m' σ' H')/\∀x H',J.yld i H x H'->g x σ H' fun σ2 H2=>tb { D with nx:=N,ct:=N,bk:=D.nx } σ2 H2):=by
 refine⟨fun i m σ H=>m=n-i/\i<=n/\Pv i σ H,⟨n,by simp,Nat.zero_le _,h0⟩,?_⟩
 rintro i m σ H ⟨rfl,hi,p⟩
 by_cases hlt:i<n
 ·exact .inr ⟨hgo i σ H hlt p,Pv (i+1),fun σ' H' p'=>⟨n-(i+1),by omega,rfl,hlt,p'⟩,fun x H' y=>hs i σ H x H' hlt p y⟩
 ·have e:i=n:=by omega
  subst e
  exact .inl ⟨hst σ H p,hd σ H p⟩
theorem Vu{J:It}{xs:List V}{a:Addr}{H0:Hp}(as:AsSeq J xs a H0){g:TG}{tb:TS}{D:Ends}{σ:St}{H:Hp}(Pv:Nat->St->Hp->Prop)(h0:Pv 0 σ H)(hk:∀i σ H,i<=xs.length->Pv i σ H->KeepAt a H0 H)
  (hs:∀i σ H x,xs[i]?=some x->Pv i σ H->g x σ H fun σ2 H2=>tb { D with nx:=Pv (i+1),ct:=Pv (i+1),bk:=D.nx } σ2 H2) (hd:∀σ H,Pv xs.length σ H->D.nx σ H) :
  ∃W:Nat->Nat->St->Hp->Prop,(∃m,W 0 m σ H)/\∀i m σ H,W i m σ H ->
   (J.stop i H/\D.nx σ H)\/(J.go i H/\∃N:St->Hp->Prop,(∀σ' H',N σ' H'->∃m',m' < m/\W (i+1) m' σ' H')/\∀x H',J.yld i H x H'->g x σ H' fun σ2 H2=>tb { D with nx:=N,ct:=N,bk:=D.nx } σ2 H2) :=
 Sn (n:=xs.length) Pv h0 (fun i σ H hi p=>as.go H i (hk i σ H (Nat.le_of_lt hi) p) hi) (fun σ H p=>as.stop H (hk _ σ H (Nat.le_refl _) p)) (fun i σ H x H' hi p y=>by
  obtain⟨rfl,e⟩:=as.yld H i x H' (hk i σ H (Nat.le_of_lt hi) p) hi y
  exact hs i σ _ x e p) hd
theorem Ai{J:It}{n:Nat}{g:TG}{tc:TT}{em:TEm}{σ:St}{H:Hp}{Q:St->Hp->Prop}(Pv:Nat->St->Hp->Prop)(h0:Pv 0 σ H)(hgo:∀i σ H,i<n->Pv i σ H->J.go i H)(hst:∀σ H,Pv n σ H->J.stop n H)
  (hs:∀i σ H x H' (N:St->Hp->Prop),i<n->Pv i σ H->J.yld i H x H'->(∀σ' H',Pv (i+1) σ' H'->N σ' H')->g x σ H' fun σ2 H2=>tc σ2 H2 fun b H3=>if b=true then em σ2 H3 N else N σ2 H3)
  (hd:∀σ H,Pv n σ H->Q σ H):Ib g tc em J σ H Q:=by
 refine⟨fun i m σ H=>m=n-i/\i<=n/\Pv i σ H,⟨n,by simp,Nat.zero_le _,h0⟩,?_⟩
 rintro i m σ H ⟨rfl,hi,p⟩
 by_cases hlt:i<n
 ·exact .inr ⟨hgo i σ H hlt p,fun x H' y=>hs i σ H x H' _ hlt p y fun σ3 H4 p'=>⟨n-(i+1),by omega,rfl,hlt,p'⟩⟩
 ·have e:i=n:=by omega
  subst e
  exact .inl ⟨hst σ H p,hd σ H p⟩
theorem i8{J:It}{xs:List V}{a:Addr}{H0:Hp}(as:AsSeq J xs a H0){g:TG}{tc:TT}{em:TEm}{σ:St}{H:Hp}{Q:St->Hp->Prop}(Pv:Nat->St->Hp->Prop)(h0:Pv 0 σ H)(hk:∀i σ H,i<=xs.length->Pv i σ H->KeepAt a H0 H)
  (hs:∀i σ H x (N:St->Hp->Prop),xs[i]?=some x->Pv i σ H->(∀σ' H',Pv (i+1) σ' H'->N σ' H')->g x σ H fun σ2 H2=>tc σ2 H2 fun b H3=>if b=true then em σ2 H3 N else N σ2 H3)
  (hd:∀σ H,Pv xs.length σ H->Q σ H):Ib g tc em J σ H Q :=
 Ai (n:=xs.length) Pv h0 (fun i σ H hi p=>as.go H i (hk i σ H (Nat.le_of_lt hi) p) hi) (fun σ H p=>as.stop H (hk _ σ H (Nat.le_refl _) p)) (fun i σ H x H' N hi p y hN=>by
  obtain⟨rfl,e⟩:=as.yld H i x H' (hk i σ H (Nat.le_of_lt hi) p) hi y
  exact hs i σ _ x N e p hN) hd
theorem Ho{em:TEm}{N:St->Hp->Prop}{σ:St}{H:Hp}{i:Nat}{x:V}(h:em (σ.set i (some x)) H N):T4 i x σ H fun σ2 H2=>Ep σ2 H2 fun b H3=>if b=true then em σ2 H3 N else N σ2 H3:=by
 show if true=true then em (σ.set i (some x)) H N else N (σ.set i (some x)) H
 rw[if_pos rfl]
 exact h
theorem Sk{em:TEm}{N:St->Hp->Prop}{σ:St}{H:Hp}(h:em σ H N):Ep σ H fun b H3=>if b=true then em σ H3 N else N σ H3:=by
 show if true=true then em σ H N else N σ H
 rw[if_pos rfl]
 exact h
section
variable{X:Cx}(K:PySem.W.Frag)(P:Program)(w:World){tg:Expr}
theorem piL{l:Expr}{tl:TE}(hl:PE X l tl)(hK:X.K=K:=by rfl):PI X tg l (Uq K tl):=by subst hK;exact Ri hl
theorem piE{elts:List Expr}{kk:Nat}{tp:Pos}{a:Expr}{ta:TA}{p pos:Pos}(hm:X.mg "enumerate" = none)(ha:PA X [a] ta)(hg:Gl X "enumerate":=by rfl)(hs:starEach [a] X.env = [(false,eval a X.env)]:=by rfl)(hK:X.K=K:=by rfl) :
  PI X (.Tuple elts kk tp) (.Call (.Name "enumerate" p) [a] [] pos) (Ue K ta):=by subst hK;exact Td hg hm Cz ha hs
theorem Tf{a:Expr}{ta:TA}{p pos:Pos}(hm:X.mg "range" = none)(ha:PA X [a] ta)(hg:Gl X "range":=by rfl)(hs:starEach [a] X.env = [(false,eval a X.env)]:=by rfl):PI X tg (.Call (.Name "range" p) [a] [] pos) (Tm ta):=Nf hg hm ha hs
theorem pgT{es:List Expr}{k:Nat}{t:TGs}{n:Nat}{pos:Pos}(h:PGs X es t)(hc:X.calm=true:=by rfl)(hn:(assignEach es X.env).length=n:=by rfl)(hst:(assignEach es X.env).findIdx? (·.1)=none:=by rfl)(hK:X.K=K:=by rfl):PG X (.Tuple es k pos) (Xz K n t):=by subst hK;exact Vl hc h hn hst
theorem peF{e:Expr}{ta:TE}{f:Str}{pos:Pos}(he:PE X e ta)(hb:attributeBase e f X.env (eval e X.env)=eval e X.env:=by rfl)(hK:X.K=K:=by rfl):PE X (.Attribute e f pos) (Xv K ta f):=by subst hK;exact Uu he hb
theorem psF{o value:Expr}{ta tv:TE}{f:Str}{pos pos':Pos}(ha:PE X o ta)(hv:PE X value tv)(hs:swapsWith value (some (.Attribute o f pos')) pos.line X.env=pure false:=by rfl)(hK:X.K=K:=by rfl):PS X (.Assign [.Attribute o f pos'] value pos) (Xu K ta tv f):=by subst hK;exact Uj ha hv hs
theorem Q6(hK:X.K=K:=by rfl):E7 X (.builtin "len") (fun xs H Q=>∃p ys,xs = [.ref p]/\(SqL K H p ys\/SqT K H p ys)/\Q (.int ys.length) H):=by subst hK;exact Bu
theorem l7(hK:X.K=K:=by rfl):E7 X (.type "list") (fun xs H Q=>∃p ys,xs = [.ref p]/\(SqL K H p ys\/SqT K H p ys)/\∀l,H l=none->Q (.ref l) (upd H l (.lst ys))):=by subst hK;exact Df
theorem Fw(hc:X.calm=true:=by rfl)(hK:X.K=K:=by rfl):E7 X (.builtin "all") (fun xs H Q=>∃(p:Addr) (bs:List Bool),xs = [.ref p]/\SqL K H p (bs.map V.bl)/\Q (.bl (bs.all id)) H):=by subst hK;exact Pa hc
theorem Bm(hK:X.K=K:=by rfl):E7 X (.builtin "sorted") (fun xs H Q=>∃(p:Addr) (ss:List Str),xs = [.ref p]/\SqL K H p (ss.map V.str)/\∀(l:Addr) (ss':List Str),H l=none->ss'.Perm ss->ss'.Pairwise leS->Q (.ref l) (upd H l (.lst (ss'.map V.str)))):=by subst hK;exact Ct
theorem Gd(hK:X.K=K:=by rfl):E7 X (.builtin "sorted") (fun xs H Q=>∃(p:Addr) (ps:List PA2),xs = [.ref p]/\SqL K H p (ps.map fun q=>V.ref q.1)/\(∀q∈ps,E4 H q)/\∀(l:Addr) (ps':List PA2),H l=none->ps'.Perm ps->ps'.Pairwise leP->Q (.ref l) (upd H l (.lst (ps'.map fun q=>V.ref q.1)))):=by subst hK;exact By
theorem g9(hK:X.K=K:=by rfl):E7 X (.builtin "isinstance") (fun xs H Q=>∃x n t b,xs = [x,.ty n]/\TyOf K H x t/\PySem.W.kitOne K t (.type n)=some b/\Q (.bl b) H):=by subst hK;exact Jp
theorem Sg(hP:X.prog=P:=by rfl)(hw:X.w=w:=by rfl):E7 X (.type "set") (fun xs H Q=>xs = []/\∀p,H p=none->Q (.ref p) (upd H p (Jf P w p []))):=by subst hP;subst hw;exact Kq
theorem Nq(hP:X.prog=P:=by rfl)(hw:X.w=w:=by rfl):E7 X (.type "set") (fun xs H Q=>xs = []/\∀p,H p=none->Q (.ref p) (upd H p (Jg P w p []))):=by subst hP;subst hw;exact Im
theorem An(hu:X.A.units+64<cLine)(hK:X.K=K:=by rfl):OpR X (compareOp .NotIn) (Wy K true):=by subst hK;exact Jo hu
theorem Op(hu:X.A.units+64<cLine)(hK:X.K=K:=by rfl):OpR X (compareOp .NotEq) (Ww K):=by subst hK;exact Uk hu
theorem Ux(hK:X.K=K:=by rfl):OpR X (compareOp .In) (rIn K false):=by subst hK;exact Lb
theorem Oi(hK:X.K=K:=by rfl):OpR X (compareOp .NotIn) (rIn K true):=by subst hK;exact Cm
theorem Xb(hP:X.prog=P:=by rfl)(hw:X.w=w:=by rfl):OpR X (compareOp .In) (Yf P w false):=by subst hP;subst hw;exact Km
theorem Xf(hu:X.A.units+1<cLine)(hP:X.prog=P:=by rfl)(hw:X.w=w:=by rfl):OpR X (compareOp .In) (Xx P w):=by subst hP;subst hw;exact Io hu
theorem To(hP:X.prog=P:=by rfl)(hw:X.w=w:=by rfl):MtM X "set.add" (Vr P w):=by subst hP;subst hw;exact Va
theorem Um(hu:X.A.units+1<cLine)(hP:X.prog=P:=by rfl)(hw:X.w=w:=by rfl):MtM X "set.add" (Uc P w):=by subst hP;subst hw;exact Rc hu
theorem Qi{o e:Expr}{to:TE}{t:TA}{apos cpos:Pos}{r:V->List V->Hp->VK->Prop}(hm:MtM X "set.add" r)(ho:PE X o to)(ha:PA X [e] t)
  (hbase:attributeBase o "add" X.env (eval o X.env)=eval o X.env:=by rfl)
  (hfew:((backTo cpos (starEach [e] X.env)).all (fun x=>!x.1) &&(backToKw cpos (keywordEach [] X.env)).all (fun x=>x.1.isSome)
   && decide ([e].length +([]:List Keyword).length +(if([]:List Keyword).isEmpty then 0 else 1)<30))=true:=by rfl)
  (hline:(apos.endLine == cpos.line)=true:=by rfl) (hs:starEach [e] X.env = [(false,eval e X.env)]:=by rfl) (hP:X.prog=P:=by rfl) (hw:X.w=w:=by rfl) :
  PE X (.Call (.Attribute o "add" apos) [e] [] cpos) (Xy P w r to t):=by subst hP;subst hw;exact Sd hm ho ha hbase hfew hline hs
theorem ixL(hK:X.K=K:=by rfl):IxR X (Xt K):=by subst hK;exact Qy
theorem ixT(hK:X.K=K:=by rfl):IxR X (Ye K):=by subst hK;exact Ua
theorem Fz(hK:X.K=K:=by rfl):MtM X "list.index" (Lm K):=by subst hK;exact Ky
theorem ptV{a:Expr}{ta:TE}(ha:PE X a ta)(he:∀whole,isTrue a X.env whole =(do let v <-whole;standAt a.pos;holding [v] (truthy v)):=by intro _;rfl)(hK:X.K=K:=by rfl):PT X a (fun σ H Q=>ta σ H fun x H'=>∃k,Xh K x H' k/\Q k H'):=by subst hK;exact Np ha he
theorem Gs{T id:String}{name:Str}{o e:Expr}{es:List Expr}{to:TE}{t:TA}{apos cpos:Pos}{r:V->List V->Hp->VK->Prop}(pa:PlainAttrs T)(slot:Slot T name id)(hty:typeOf (.builtin id)=pure (.type "method_descriptor"))(hm:MtM X id r)(ho:PE X o to)(ha:PA X (e::es) t)
  (hbase:attributeBase o name X.env (eval o X.env)=eval o X.env:=by rfl)
  (hfew:((backTo cpos (starEach (e::es) X.env)).all (fun x=>!x.1) &&(backToKw cpos (keywordEach [] X.env)).all (fun x=>x.1.isSome)
   && decide ((e::es).length +([]:List Keyword).length +(if([]:List Keyword).isEmpty then 0 else 1)<30))=true:=by rfl)
  (hline:(apos.endLine == cpos.line)=true:=by rfl) (hs:starEach (e::es) X.env =(false,eval e X.env)::starEach es X.env:=by rfl) (hplain:(backTo cpos (starEach es X.env)).any (·.1)=false:=by rfl) (hK:X.K=K:=by rfl) :
  PE X (.Call (.Attribute o name apos) (e::es) [] cpos) (tBM K T r to t):=by subst hK;exact Wl pa slot hty hm ho ha hbase hfew hline hs hplain
end
section
variable{X:Cx}{tg iter elt:Expr}{ifs:List Expr}{scope:Scope}{cl:List (Str×Addr)}{N':List Str}{cap:List (Option Nat)}{wi:TI}{pos:Pos}
theorem Mw{e:Expr}{gs:List Comprehension}{newAcc:Sem Value}{p2:Pos}{use:Option (Value->Sem Unit)}{Qv:Value->Shared->Prop}(hcl:clausesOf e =⟨tg,iter,ifs,0⟩::gs)(o:Addr->HO)(hs:∀x,foldedSetIterable iter X.env x=pure x)(S:CScope X scope cl N' cap)(hc:X.calm=true)(hi:PI X tg iter wi)
  {lp:Addr->It->St->Hp->(St->Hp->Prop)->Prop}
  (hnew:∀(pins:List (Addr×Obj)) (s:Shared) (σ:St) (H:Hp) (Q:Value->Shared->Prop) (E:Value->Shared->Prop),Inv X pins σ H s->(∀s',Inv X pins σ (upd H s.heap.objs.size (o s.heap.objs.size)) s'->(∀b ob,s.heap.get? b=some ob->s'.heap.get? b=some ob)->Q (.ref s.heap.objs.size) s')->wpAny (model X.prog X.w) X.A newAcc Q E s)
  (hlp:∀(pins:List (Addr×Obj)) (ex:List Addr) (s3:Shared) (H3:Hp) (D it:Addr) (fp:List Addr) (tn:Nat->Heap->Prop) (J:It) (σ:St) (s:Shared) (H:Hp) (Q:St->Hp->Prop) (R:Result->Shared->Prop),
   Turn X.prog X.w X.K tg J fp it tn->Inv (cxC X scope cl N' pins ex s3 H3) [] σ H s->tn 0 s.heap->(∀b∈fp,u9 (cxC X scope cl N' pins ex s3 H3) [] H b)->lp D J σ H Q ->
   (∀s' σ' H',Inv (cxC X scope cl N' pins ex s3 H3) [] σ' H' s'->Q σ' H'->R (.ok .next) s') ->
   codeAny (model X.prog X.w) X.A (.compLoop e 0 (.ref it) (.ref D) (compEnvC scope cl s3.heap.objs.size X.env)) R s)
  (hun:∀it D env,X.A.under (.compStart e 0 (.ref it) (.ref D) env)=X.A) (hden:∀it D env,(model X.prog X.w).den (.compStart e 0 (.ref it) (.ref D) env) =(compStart e 0 (.ref it) (.ref D) env).onRaise (fun x=>do noteFrame x env;standAt theWindowsPlace))
  {pins:List (Addr×Obj)} {s:Shared} {σ:St} {H:Hp} {Q:V->Hp->Prop} (I:Inv X pins σ H s) (h:Em wi o cap lp σ H Q)
  (hend:∀(D:Addr) (fp:List Addr) (H2:Hp) (s3 s':Shared) (σ':St) (H':Hp),Inv X pins σ H2 s3->(∀b∈fp,u9 X pins H2 b)->Inv (cxC X scope cl N' pins fp s3 H2) [] σ' H' s'->Q (.ref D) H'->compPost (model X.prog X.w) X.A X.xe use Qv (.ref D) s3.heap.objs.size (.ok .next) s') :
  wpAny (model X.prog X.w) X.A (comprehension e scope X.env p2 newAcc false (eval iter X.env) use) Qv X.xe s:=by
 refine wpAny_comprehension_free hcl hs S.clos S.kind S.loc (thn (hi pins s σ H _ I h) fun v s1 h1=>thn h1 fun itv s2 h2=>?_)
 obtain⟨it,fp,tn,J,H2,eit,I2,T,st2,f2,R2⟩:=h2
 subst eit
 refine hnew pins s2 σ H2 _ _ I2 fun s3 I3 k3=>?_
 have hD:H2 s2.heap.objs.size=none:=I2.hok.fresh (Nat.le_refl _)
 have fok:∀b∈fp,u9 X pins (upd H2 s2.heap.objs.size (o s2.heap.objs.size)) b/\∃ob,s3.heap.get? b=some ob:=fun b hb=>by
  obtain⟨ob,e,_⟩:=T.obj _ _ st2 b hb
  obtain⟨f0,fr⟩:=f2 b hb
  exact⟨⟨by rw[B5 (Nat.ne_of_lt (Heap.lt_size e))];exact f0,fr⟩,ob,k3 b ob e⟩
 refine wpAny_newFunctionEnv S.nocell (by intro y hy;simp at hy) (fun h1 hns hsb=>?_) S.kind
 have hk:∀b ob,s3.heap.get? b=some ob->h1.get? b=some ob:=fun b ob e=>(hsb.2 b (Nat.ne_of_lt (Heap.lt_size e))).trans (Heap.get?_push_of_some _ e)
 have I4:Inv (cxC X scope cl N' pins fp s3 (upd H2 s2.heap.objs.size (o s2.heap.objs.size))) [] (Je cap σ) (upd H2 s2.heap.objs.size (o s2.heap.objs.size)) { s3 with heap:=h1,toks:=s3.toks +([]:List (Str×Value)).length } :=
  I3.block S hc fok hns hk
 have st4:tn 0 h1:=T.keep 0 _ _ st2 fun b hb ob e=>hk b ob (k3 b ob e)
 refine W9 (X:=cxC X scope cl N' pins fp s3 (upd H2 s2.heap.objs.size (o s2.heap.objs.size))) (gs:=⟨tg,iter,ifs,0⟩::gs) (e:=e) (d:=0) (tg:=tg) (iter:=iter) (ifs:=ifs) (hun _ _ _) (hden _ _ _) hcl rfl T st4 ?_
 refine hlp pins fp s3 _ s2.heap.objs.size it fp tn J (Je cap σ) _ _ _ _ T I4 st4 (fun b hb=>?_) (R2 _ hD) fun s' σ' H' I' q'=>?_
 ·obtain⟨⟨f0,f1,f2',f3,f4,f5⟩,ob,eo⟩:=fok b hb
  refine⟨f0,Nat.ne_of_lt (Heap.lt_size eo),fun hf=>?_,.inl hb,fun x c e=>f4 x c (S.cin.get e),fun p hp=>f5 p (by simpa [cxC] using hp)⟩
  rcases List.mem_cons.mp (I3.stkSub b hf)with z | z
  ·exact f1 z
  ·exact f2' z
 ·exact hend _ fp _ s3 s' σ' H' I3 (fun b hb=>(fok b hb).1) I' q'
theorem Pd{i:Nat}{x:Str}{pos' cpos:Pos}{g:TG}{tc:TT}{te:TE}(hN:X.N.Nodup)(hi:X.N[i]?=some x)(hx:Loc X.env.scope x)(S:CScope X scope cl N' cap)(hc:X.calm=true)(hI:PI X tg iter wi)
  (hb:∀(pins:List (Addr×Obj)) (ex:List Addr) (s3:Shared) (H3:Hp),PG (cxC X scope cl N' pins ex s3 H3) tg g/\PTs (cxC X scope cl N' pins ex s3 H3) ifs tc/\PE (cxC X scope cl N' pins ex s3 H3) elt te)
  (hs:∀x,foldedSetIterable iter X.env x=pure x:=by intro _;rfl)
  (hsw:swapsWith (.ListComp elt [⟨tg,iter,ifs,0⟩] scope cpos) (some (.Name x pos')) pos.line X.env=pure true:=by rfl)
  (hf:X.fn x=true\/X.env.scope.names.lookup x=some .local:=by first | exact .inl rfl | exact .inr rfl | assumption) :
  PS X (.Assign [.Name x pos'] (.ListComp elt [⟨tg,iter,ifs,0⟩] scope cpos) pos) (Wa (Em wi (fun _=>.lst []) cap fun D J σ H Q=>Ib g tc (Cr D te) J σ H Q) (T4 i)):=by
 intro pins s σ H D I h
 rw[exec_Assign]
 refine wpAny_bind (wpAny_standAt (wpAny_bind (wpAny_of_eq hsw (wpAny_ite_true rfl (wpAny_bind (wpAny_bind ?_))))))
 refine Mw (newAcc:=newList []) (p2:=firstIterPos [⟨tg,iter,ifs,0⟩] cpos) rfl (fun _=>.lst []) hs S hc hI (fun pins s σ H Q E I h=>?_) (fun pins ex s3 H3 D it fp tn J σ s H Q R T I st hf h hR=>?_) (fun _ _ _=>rfl) (fun _ _ _=>rfl) I h fun E fp H2 s3 s' σ' H' I3 fok I' q=>?_
 ·refine wpAny_newList ?_
  exact h _ (I.lnew (t':=s.toks) (its:=[]) .nil (Nat.zero_le _)) fun b ob e=>Heap.get?_push_of_some _ e
 ·obtain⟨b1,b2,b3⟩:=hb pins ex s3 H3
  exact V7 (X:=cxC X scope cl N' pins ex s3 H3) rfl rfl hc rfl (W7 elt tg iter ifs scope cpos _ _ _) b1 b2 (Ao rfl b3) T I st hf h hR
 ·have IX:Inv X pins σ H' s':=I3.unblock fok I' ⟨rfl,fun _ _=>rfl⟩
  have fC:u9 X pins H' s3.heap.objs.size:=I3.fpOk (Nat.le_refl _) I'.free
  obtain⟨m,hn,_⟩:=I'.loc
  show wpAny _ _ (assign (.Name x pos') X.env (.ref E)) _ _ _
  refine wpAny_assign_Name (Dk (v:=.ref E) IX hN hi hx rfl (fun s2 I2 ⟨a,hsb,ha⟩=>?_) hf)
  have nC:s3.heap.objs.size≠a:=by
   rcases ha with rfl | ha
   ·exact fC.2.1
   ·exact(fC.2.2.2.2.1 _ _ ha).symm
  refine⟨m,?_,fun h' hsb'=>wpAny_pure (wpAny_pure ?_)⟩
  ·obtain⟨ob,es,ep,e1,r⟩:=hn
   exact⟨ob,es,ep,(hsb.2 _ nC).trans e1,r⟩
  refine⟨_,H',?_,q⟩
  have k:∀b ob,b∉[s3.heap.objs.size]->s2.heap.get? b=some ob->h'.get? b=some ob:=fun b ob hb e=>(hsb'.2 b fun z=>hb (List.mem_singleton.mpr z)).trans e
  refine I2.step (h':=h') (H':=H') (t':=s2.toks) (g':=s2.gens) (d':=s2.drawn) (ch:=[s3.heap.objs.size]) (fun b hb=>by rw[List.mem_singleton.mp hb];exact⟨fC.2.2.2.1,fC.2.1,fC.2.2.2.2⟩) (fun b ob _ _ hc e _=>k b ob hc e) (fun b ob _ _ hc e _=>⟨ob.slots,k b ob hc e⟩) (fun _ _ _ _ n=>n)
   (fun b ob hc e=>⟨ob,k b ob hc e⟩) (fun _ _ e=>e) (fun _ _ _ e=>e) (fun b ps e=>⟨#[],by rw[e];simp⟩) (fun m hm=>?_) (fun b u eb=>?_) I2.bare
  ·obtain⟨ob,es,ep,ho,r⟩:=hm
   exact⟨ob,es,ep,k _ ob (fun hb=>fC.2.1 (List.mem_singleton.mp hb).symm) ho,r⟩
  ·have nf:∀b u,H' b=some u->b∉[s3.heap.objs.size]:=fun b u e hb=>by rw[List.mem_singleton.mp hb,fC.1]at e;cases e
   refine(I2.hok b u eb).stay (fun c v hc q=>k c v ?_ q) (fun _ q=>q) fun _ _ q=>q
   rcases hc with z | z
   ·rw[z];exact nf b u eb
   ·exact nf c _ z
end
structure IsC(K:PySem.W.Frag)(C:Addr):Prop where
 ha:PySem.W.findIn K (.ref C) "__class__" = some (some (.builtin "object.__class__"))
 hn:PySem.W.specialIn K (.builtin "object.__class__") "__get__" = some (some (.builtin "getset_descriptor.__get__"))
 htk:PySem.W.takesIn K (.builtin "object.__class__")=some true
 hm:PySem.W.mroIn K C (.type "object")=some true
 one:PySem.W.kitOne K (.ref C) (.ref C)=some true
theorem kit_same(K:PySem.W.Frag)(a:Addr):PySem.W.kitOne K (.ref a) (.ref a)=some true:=if_pos (beq_self_eq_true _)
section
variable{X:Cx}
theorem Xl{x:Str}{C:Addr}{pos:Pos}(h:X.mg x=some (.ref C))(hg:Gl X x:=by rfl)(hd:(x ==("__debug__":Str))=false:=by decide):PE X (.Name x pos) (tC (.ref C)):=Fe hg h rfl hd
theorem Oe(hc:X.calm=true):E7 X (.builtin "any") (fun xs H Q=>∃(p:Addr) (bs:List Bool),xs = [.ref p]/\SqL X.K H p (bs.map V.bl)/\Q (.bl (bs.any id)) H):=by
 intro pins s σ H xs us Q I r h
 obtain⟨p,bs,rfl,hq,q⟩:=h
 obtain⟨u,rfl,ru⟩:=V1 r
 cases ru
 obtain⟨its,rv,pl,hz⟩:=I.list hq
 refine call_any_walk (wpAny_pyIter_list pl.isList ?_)
 have hne:p≠s.heap.objs.size:=by
  obtain⟨o,n,e,_⟩:=pl
  exact Nat.ne_of_lt (Heap.lt_size e)
 refine⟨s.heap.objs.size,_,_,_,_,_,fun i=>bs.getD i false,rfl,Walks.list (A:=X.A.in1) (show X.A.in1.handled=none from I.ok.hd hc) _ p hne its.toArray,⟨⟨_,Heap.get?_push_size _ rfl,rfl,rfl⟩,?_⟩,fun i v s' Q' E' hv q'=>?_,fun h' tk k=>?_⟩
 ·obtain⟨o,n,e,c,d,e2⟩:=pl
  exact⟨o,Heap.get?_push_of_some _ e,c,n,e2⟩
 ·have hb:(bs.map V.bl)[i]?=some (V.bl (bs.getD i false))/\RelV (V.bl (bs.getD i false)) v:=by
   have hv':its[i]?=some v:=by simpa using hv
   have hi:i<its.length:=(List.getElem?_eq_some_iff.mp hv').1
   have hl:=rv.length
   rw[List.length_map]at hl
   have e:(bs.map V.bl)[i]?=some (V.bl (bs.getD i false)):=by
    rw[List.getElem?_map,List.getElem?_eq_getElem (by omega)]
    simp[List.getD_eq_getElem?_getD,List.getElem?_eq_getElem (show i<bs.length by omega)]
   obtain⟨u,hu,ru⟩:=rv.get e
   rw[hv']at hu
   cases hu
   exact⟨e,ru⟩
  cases hb.2
  exact wpAny_truthy_bool q'
 ·have hl:=rv.length
  rw[List.length_map]at hl
  have e:(List.range its.toArray.size).any (fun i=>bs.getD i false)=bs.any id:=by
   rw[List.size_toArray,<-hl,Bool.eq_iff_iff,List.any_eq_true,List.any_eq_true]
   constructor
   ·rintro⟨i,hi,z⟩
    have hi':=List.mem_range.mp hi
    refine⟨bs[i],List.getElem_mem hi',?_⟩
    simpa [List.getD_eq_getElem?_getD,List.getElem?_eq_getElem hi'] using z
   ·rintro⟨b,hb,z⟩
    obtain⟨i,hi,rfl⟩:=List.mem_iff_getElem.mp hb
    refine⟨i,List.mem_range.mpr hi,?_⟩
    simpa [List.getD_eq_getElem?_getD,List.getElem?_eq_getElem hi] using z
  rw[e]
  exact⟨.bl (bs.any id),H,I.kept fun b o eb=>k b o (by
   intro hb
   have:b=s.heap.objs.size:=by simpa using hb
   exact absurd (Heap.lt_size eb) (by rw[this];exact Nat.lt_irrefl _)) (Heap.get?_push_of_some _ eb),rfl,q⟩
theorem Qm:bootBuiltins "any" = some (.builtin "any"):=by decide +kernel
variable(K:PySem.W.Frag)
theorem Qp(hc:X.calm=true:=by rfl)(hK:X.K=K:=by rfl):E7 X (.builtin "any") (fun xs H Q=>∃(p:Addr) (bs:List Bool),xs = [.ref p]/\SqL K H p (bs.map V.bl)/\Q (.bl (bs.any id)) H):=by subst hK;exact Oe hc
end
theorem Gn:bootBuiltins "sum" = some (.builtin "sum"):=by decide +kernel
section
variable{X:Cx}
theorem Kc(hc:X.calm=true):E7 X (.builtin "sum") (fun xs H Q=>∃(p:Addr) (ns:List Int),xs = [.ref p]/\SqL X.K H p (ns.map V.int)/\Q (.int ns.sum) H):=by
 intro pins s σ H xs us Q I r h
 obtain⟨p,ns,rfl,hq,q⟩:=h
 obtain⟨u,rfl,ru⟩:=V1 r
 cases ru
 obtain⟨its,rv,pl,hz⟩:=I.list hq
 have hi:=Ic rv
 obtain⟨xs,ex⟩:=hi.allInts.items
 refine sum_intListG (xs:=xs) (I.ok.hd hc) (by rw[<-ex];exact pl.isList) fun h' tk t' k=>⟨.int ns.sum,H,I.kept k,⟨t',?_⟩,q⟩
 have e:numsOf its=ns:=hi.numsOf
 have e2:numsOf (intItems xs).toList=numsOf its:=by rw[<-ex]
 rw[preSum_eq,List.take_of_length_le (by simp),<-nums_intItems,e2,e]
theorem Mx(K:PySem.W.Frag)(hK:X.K=K:=by rfl)(hc:X.calm=true:=by rfl):E7 X (.builtin "sum") (fun xs H Q=>∃(p:Addr) (ns:List Int),xs = [.ref p]/\SqL K H p (ns.map V.int)/\Q (.int ns.sum) H):=by subst hK;exact Kc hc
end
theorem Ut{α:Type}:∀{ps:List (Addr×α)} {us:List Value},Vals (ps.map fun q=>V.ref q.1) us->us=ps.map fun q=>Value.ref q.1
 | [],_,.nil=>rfl
 | _::_,_,.cons r t=>by rw[List.map_cons,Ut t];cases r;rfl
theorem Tz{α:Type}:∀(ps:List (Addr×α)),Vals (ps.map fun q=>V.ref q.1) (ps.map fun q=>Value.ref q.1)
 | []=>.nil
 | _::ps=>.cons rfl (Tz ps)
noncomputable def Itd(d:Addr)(o:Obj)(kvs:List (Key×V)):It :=
 ⟨fun i H=>H d=some (.frz o (.dK kvs))/\i<kvs.length,fun i H x H'=>H'=H/\∃k v,kvs[i]?=some (k,v)/\x=kV k,fun i H=>H d=some (.frz o (.dK kvs))/\kvs.length<=i⟩
theorem KV.at{kvs:List (Key×V)}{vs:List (Key×Value)}(h:KV kvs vs):∀{i:Nat} {k:Key} {v:V},kvs[i]?=some (k,v)->∃u,vs[i]?=some (k,u):=by
 induction h with
 | nil=>intro i k v e;rw[List.getElem?_nil]at e;cases e
 | cons r _ ih =>
  intro i k v e
  cases i with
  | zero =>
   rw[List.getElem?_cons_zero]at e⊢
   cases e
   obtain⟨a,b⟩:=r
   exact⟨_,by rw[show k=_ from a]⟩
  | succ i=>exact ih e
theorem Ra{k:Key}{u:Value}(h:Ck k u=true):RelV (kV k) u:=by
 cases k with
 | inl i=>obtain⟨t,rfl⟩:=Value.isInt_shape h;exact⟨t,rfl⟩
 | inr x=>obtain⟨t,rfl⟩:=Value.isStrOf_shape h;exact⟨t,rfl⟩
section
variable{X:Cx}{tg:Expr}
theorem Jt{P:Program}{w:World}{K:PySem.W.Frag}{d it:Addr}{o:Obj}{kvs:List (Key×V)}{es:Array DictEntry}{ep:Nat}(hd:o.data = .dict es ep):Turn P w K tg (Itd d o kvs) [it] it (fun i h=>h.IsKeyIter it d i kvs.length ep) where
 mem:=by simp
 obj:=fun i h st b hb=>by
  have e:b=it:=by simpa using hb
  subst e
  obtain⟨o,e,c,d⟩:=st
  exact⟨o,e,fun v z=>by rw[d]at z;cases z⟩
 keep:=fun i h h' st k=>by
  obtain⟨o,e,r⟩:=st
  exact⟨o,k it (by simp) o e,r⟩
 item:=by
  intro X hP hw hK hc i pins s σ H E I hf st hg
  subst hP hw hK
  obtain⟨hq,hi⟩:=hg
  obtain⟨f0,f1,f2,f3,f4,f5⟩:=hf it (by simp)
  obtain⟨ho,hz,hS,vs,r,ob,es',ep',e1,c1,d1,m1⟩:=(show ObjOk X.prog X.w H s.heap d (.frz o (.dK kvs))from I.hok d _ hq)
  rw[ho]at e1
  cases e1
  rw[hd]at d1
  cases d1
  have hx:kvs[i]?=some (kvs[i].1,kvs[i].2):=List.getElem?_eq_getElem hi
  obtain⟨u,hu⟩:=r.at hx
  have hl:kvs.length=vs.length:=r.length
  rw[hl]at st
  refine wpAny_pyNext_dict_item (knd:=C0 X.prog X.w) st ⟨o,es,ho,c1,hd,m1⟩ hu fun key h' hkey st' sb=>?_
  have I1:Inv X pins σ H { s with heap:=h' }:=I.turned (t':=s.toks) (fun b o hb e=>(sb.2 b hb).trans e) f0 f1 f3 f4 f5
  obtain⟨oi,ei,ci,di⟩:=id st'
  rw[<-hl]at st'
  exact⟨key,rfl,Me (s:={ s with heap:=h' }) ei ci di (by decide) ⟨kV kvs[i].1,H,I1,Ra hkey,⟨rfl,_,_,hx,rfl⟩,st',fun b hb=>(hf b hb).1⟩⟩
 done:=by
  intro X hP hw hK hc i pins s σ H E I hf st hg
  subst hP hw hK
  obtain⟨hq,hi⟩:=hg
  obtain⟨f0,f1,f2,f3,f4,f5⟩:=hf it (by simp)
  obtain⟨ho,hz,hS,vs,r,ob,es',ep',e1,c1,d1,m1⟩:=(show ObjOk X.prog X.w H s.heap d (.frz o (.dK kvs))from I.hok d _ hq)
  rw[ho]at e1
  cases e1
  rw[hd]at d1
  cases d1
  have hl:kvs.length=vs.length:=r.length
  rw[hl]at st hi
  exact wpAny_pyNext_dict_end (knd:=C0 X.prog X.w) (I.ok.hd hc) st ⟨o,es,ho,c1,hd,m1⟩ (List.getElem?_eq_none hi) fun h' eb=>⟨rfl,I.turned (t':=s.toks) (fun b o hb e=>eb b o hb e) f0 f1 f3 f4 f5⟩
 self:=fun _ _ _ _ _ st h=>wpAny_pyIter_keyiter st h
end
end L2
namespace TS
open PySem PyProof.Rows
section
variable{prog:Program}{w:World}{A:Around}{E:Value->Shared->Prop}{s:Shared}{κ:KeyKind}{kd:SortKind}
structure Keys2(prog:Program)(w:World)(a:Addr)(s:Shared)(κ:KeyKind)(kd:SortKind)(vs:List Value):Prop where
 cmp:∀(A:Around) (s':Shared),A.units+4<cLine->Ext a s s'->Cmp prog w A s' κ kd
 key:∀v∈vs,∃k,κ.keyOf v=some k
 kind:2<=vs.length->∀(A:Around) (E:Value->Shared->Prop) (s':Shared) (Q:SortKind->Shared->Prop),Ext a s s'->Q kd s'->wpAny (model prog w) A (keyKind' vs.toArray) Q E s'
theorem u8{a:Addr}{vs:List Value}{n:Nat}{P:Fin->Shared->Prop}(hu:A.units+4<cLine)(ho:s.heap.get? a=some (seqObj "list" vs.toArray n))(hz:vs.length<=sizeLine)(K:Keys2 prog w a s κ kd vs)
  (h:∀out:Array Value,Out κ vs out->P (.done (.ret .none)) { s with heap:=sortedHeap s.heap a vs out }) :
  wpAny (model prog w) A (Builtin.«list.sort» ⟨[.ref a],[]⟩) P E s:=by
 rw[list_sort_plain]
 have ha:a<s.heap.objs.size:=Heap.lt_size ho
 have hsz:vs.toArray.size=vs.length:=by simp
 refine wpAny_bind (listItems_at ho rfl ?_)
 refine wpAny_bind (listUpdate_at ho rfl ?_ (by rw[hsz];exact hz) (by simp))
 obtain⟨e1,ho1⟩:∃e1,(s.heap.update a (Obj.mapSeq fun _=>#[])).get? a=some (seqObj "list" #[] e1):=⟨_,get?_update_seq ho (fun _=>#[])⟩
 refine wpAny_bind (seqEpoch_at ho1 rfl ?_)
 refine wpAny_bind (wpAny_newTuple ?_ (by simpa using hz))
 refine wpAny_bind (wpAny_newList ?_)
 refine wpAny_holding ?_
 have ho6:(((s.heap.update a (Obj.mapSeq fun _=>#[])).push (seqObj "tuple" vs.toArray 0)).push (seqObj "list" #[] 0)).get? a=some (seqObj "list" #[] e1):=by
  rw[Heap.get?_push_ne _ _ _ (by rw[size_push',Heap.size_update];exact Nat.ne_of_lt (Nat.lt_succ_of_lt ha)),Heap.get?_push_ne _ _ _ (by rw[Heap.size_update];exact Nat.ne_of_lt ha)]
  exact ho1
 show wpAny (model prog w) A _ P E { s with heap:=((s.heap.update a (Obj.mapSeq fun _=>#[])).push (seqObj "tuple" vs.toArray 0)).push (seqObj "list" #[] 0) }
 dsimp only
 have hE:Ext a s { s with heap:=((s.heap.update a (Obj.mapSeq fun _=>#[])).push (seqObj "tuple" vs.toArray 0)).push (seqObj "list" #[] 0) }:=fun b o hb e =>
  Heap.get?_push_of_some _ (Heap.get?_push_of_some _ ((Heap.get?_update_other s.heap _ (Ne.symm hb)).trans e))
 by_cases h2:vs.toArray.size<2
 ·rw[if_pos h2,if_pos h2]
  refine wpAny_bind (wpAny_pure ?_)
  rw[StateT.run_pure]
  refine wpAny_bind (wpAny_pure ?_)
  dsimp only
  refine wpAny_bind (seqEpoch_at ho6 rfl ?_)
  refine wpAny_bind (listUpdate_at ho6 rfl ?_ (by simp) (by rw[Array.size_map];show(pairsOf vs).size<=_;rw[pairsOf_size];omega))
  simp only[bne_self_eq_false,Bool.false_eq_true,if_false]
  refine wpAny_pure (h _ (Hq (κ:=κ) (xs:=pairsOf vs) (List.Perm.refl _) ?_))
  rw[pairsOf_toList]
  rw[hsz]at h2
  match vs,h2 with
  | [],_=>exact List.Pairwise.nil
  | [v],_=>exact List.pairwise_singleton _ _
  | _::_::_,h2=>simp at h2;omega
 ·rw[if_neg h2,if_neg h2]
  refine wpAny_bind (K.kind (by omega) A E _ _ hE ?_)
  refine wpAny_bind (wpAny_mono (V2 (K.cmp A _ hu hE) (a₀:=pairsOf vs) (st:=SortSt.mk' kd (vs.toArray.zip vs.toArray) #[] 7 none)
   (Q:=fun _ st'=>St κ kd (pairsOf vs) st'/\Sor κ (arrOf st').toList)
   (fun p hp=>?_) ⟨List.Perm.refl _,rfl,rfl⟩ rfl fun st' a1 a2=>⟨a1,a2⟩) ?_ fun _ _ e=>e)
  ·rw[pairsOf_toList]at hp
   exact K.key _ (mem_zip_self hp).2
  rintro⟨⟨⟩,st'⟩ s' ⟨rfl,hp,hs⟩
  dsimp only
  refine wpAny_bind (seqEpoch_at ho6 rfl ?_)
  refine wpAny_bind (listUpdate_at ho6 rfl ?_ (by simp) (by rw[Array.size_map];show(arrOf st').size<=_;rw[hp.size,pairsOf_size];omega))
  rw[show failedOf st'=none from hp.failed]
  simp only[bne_self_eq_false,Bool.false_eq_true,if_false]
  exact wpAny_pure (h _ (Hq hp.perm hs))
theorem sorted_gen2{x:Value}{Q:Value->Shared->Prop}(hu:A.units+6<cLine)
  (hc:wpAny (model prog w) A.in1 (collect x) (fun vs s1=>s1.os=s.os/\vs.length<=sizeLine/\(∃(κ:KeyKind) (kd:SortKind),(∀s2:Shared,Ext s1.heap.objs.size s1 s2->Keys2 prog w s1.heap.objs.size s2 κ kd vs) /\
   ∀(out:Array Value) (h':Heap) (e:Nat),Out κ vs out->(∀b o,s1.heap.get? b=some o->h'.get? b=some o)->h'.get? s1.heap.objs.size=some (seqObj "list" out e)->Q (.ref s1.heap.objs.size) { s1 with heap:=h' })) E s) :
  wpAny (model prog w) A (call (.builtin "sorted") [x]) Q E s:=by
 refine Calls.call_function_entry kind_sorted plain_sorted entry_sorted (args_sorted1 _) ?_
 unfold Builtin.«sorted»
 refine wpAny_bind (m:=checkCount "sorted" 1 1 _) (wpAny_pure ?_)
 refine wpAny_bind (wpAny_mono hc (fun vs s1 ⟨eos,hz,κ,kd,K,q⟩=>?_) fun _ _ z=>z)
 refine wpAny_bind (wpAny_newList ?_)
 have hoL:(s1.heap.push (seqObj "list" vs.toArray 0)).get? s1.heap.objs.size=some (seqObj "list" vs.toArray 0):=Heap.get?_push_size _ rfl
 show wpAny _ _ _ _ _ { s1 with heap:=s1.heap.push (seqObj "list" vs.toArray 0) }
 have hE:Ext s1.heap.objs.size s1 { s1 with heap:=s1.heap.push (seqObj "list" vs.toArray 0) }:=fun b o _ e=>Heap.get?_push_of_some _ e
 refine wpAny_bind (wpAny_holding (wpAny_call_entry slot_list_sort ⟨_,hoL,rfl⟩ entry_list_sort (u8 (s:={ s1 with heap:=s1.heap.push (seqObj "list" vs.toArray 0) }) (by simp only[Around.in1_units];omega) hoL hz (K _ hE) fun out ho=>⟨_,rfl,?_⟩) (args_list_sort _)))
 obtain⟨e,he⟩:=sortedHeap_at (h:=s1.heap.push (seqObj "list" vs.toArray 0)) (out:=out) hoL
 refine wpAny_pure ⟨_,rfl,q out _ e ho (fun b o eb=>?_) he⟩
 have hlt:=Heap.lt_size eb
 rw[sortedHeap_old (Nat.ne_of_lt hlt) (by rw[size_push'];exact Nat.lt_succ_of_lt hlt)]
 exact Heap.get?_push_of_some _ eb
open PySem.SeqAt PySem.MeetsSeq PySem.MeetsSeq3
open AutoSeq1 (wpAny_loadPart')
theorem oneLt_lists{l b:Addr}{items items2:Array Value}{n n2:Nat}{r:Bool}{Q:Bool->Shared->Prop}(hu:A.units<cLine)(hl:s.heap.get? l=some (seqObj "list" items n))(hb:s.heap.get? b=some (seqObj "list" items2 n2))
  (hm:Meets (Builtin.«list.__lt__» ⟨[.ref l,.ref b],[]⟩) (fun A R s=>s.heap.get? l=some (seqObj "list" items n)/\s.heap.get? b=some (seqObj "list" items2 n2)/\R (.ok (.ret (.bool r))) s)) (h:Q r s) :
  wpAny (model prog w) A (oneLt' true (.ref l) (.ref b)) Q E s:=by
 rw[oneLt'_eq]
 simp only[if_true]
 refine wpAny_bind (wpAny_cRoomFor hu ?_)
 refine wpAny_bind (wpAny_callSpecialIfBound?_slot (T := "list") ⟨_,hl,rfl⟩ F.slot_list_lt (call_meets F.slot_list_lt ⟨_,hl,rfl⟩ F.entry_list_lt (F.args_list_lt_2 _ _) hm ⟨hl,hb,?_⟩))
 exact wpAny_truthy_bool h
end
end TS
namespace L2
open PySem PySem.Spec PyProof.Rows
noncomputable def LAt(h:Heap)(p:Addr)(us:List Value):Prop:=∃n,h.get? p=some (seqObj "list" us.toArray n)
theorem Hm:∀{a b:List Str},a.map V.str=b.map V.str->a=b
 | [],[],_=>rfl
 | [],_::_,h=>(by cases h)
 | _::_,[],h=>(by cases h)
 | x::r,y::t,h=>by
  rw[List.map_cons,List.map_cons]at h
  injection h with h1 h2
  injection h1 with h1
  rw[h1,Hm h2]
noncomputable def XO(x C:Addr)(d:Option Addr):HO:=.ext fun h=>∃o vs,h.get? x=some o/\o.cls = .ref C/\o.dict=d/\o.data = .fields vs
theorem XO.ok{P:Program}{w:World}{H:Hp}{h:Heap}{x C:Addr}{d:Option Addr}{o:Obj}{vs:Array Value}(e:h.get? x=some o)(hc:o.cls = .ref C)(hd:o.dict=d)(hv:o.data = .fields vs):ObjOk P w H h x (XO x C d) :=
 ⟨⟨o,vs,e,hc,hd,hv⟩,⟨o,e⟩,fun h1 h2 ⟨o,vs,e,r⟩ k=>⟨o,vs,k o e,r⟩⟩
noncomputable def Fl(H:Hp)(n:Nat)(x:Addr)(h:Heap):Prop :=
 ∃o vs,h.get? x=some o/\o.data = .fields vs/\1<vs.size/\(vs[1]?=some .none\/∃T oT ts,vs[1]?=some (.ref T)/\T≠x/\n<=T/\H T=none/\h.get? T=some oT/\oT.data = .fields ts/\3<ts.size)
structure RX(P:Program)(w:World)(base:Heap)(fs:List Env)(env:Env)(outer:List Env)(H0:Hp)(s0:Shared)(x C:Addr)(d:Option Addr)(H:Hp)(s:Shared):Prop where
 os:s.os=s0.os
 bare:AllBare s.gens
 un:Un (frs fs) [] H0 H s0.heap s.heap
 hok:HOk P w H s.heap
 bsz:base.objs.size<=s0.heap.objs.size
 bs:∀b o,base.get? b=some o->s.heap.get? b=some o/\H b=none
 funs:s.heap.FunFrames base (env::outer)
 frf:∀b∈frs (env::outer),H b=none
 loc:∃L,env.frame=some L
 old:∀b o,s0.heap.get? b=some o->b∉frs fs->b∉frs (env::outer)
 sub:∀b∈frs fs,b∈frs (env::outer)
 hx:H x=some (XO x C d)
 nx:s0.heap.objs.size<=x
 fl:Fl H s0.heap.objs.size x s.heap
section
variable{P:Program}{w:World}{base:Heap}{env:Env}{fs outer:List Env}{H0 H:Hp}{s0 s:Shared}{x C:Addr}{d:Option Addr}{h':Heap}
theorem RX.chg(r:RX P w base fs env outer H0 s0 x C d H s){TT:List Addr}(tt:∀T∈TT,H T=none/\s0.heap.objs.size<=T/\∃o ts,s.heap.get? T=some o/\o.data = .fields ts)
  (keep:∀b o,b≠x->b∉TT->b∉frs (env::outer)->s.heap.get? b=some o->h'.get? b=some o)
  (slot:∀b o,b∈frs (env::outer)->s.heap.get? b=some o->∃sl,h'.get? b=some { o with slots:=sl })
  (ht:∀T∈TT,∃o,h'.get? T=some o) (hxo:∀o,s.heap.get? x=some o->∃vs,h'.get? x=some { o with data:=.fields vs }) (fl:Fl H s0.heap.objs.size x h') :
  RX P w base fs env outer H0 s0 x C d H { s with heap:=h' }:=by
 obtain⟨ox,vx,ex,hcx,hdx,hvx⟩:∃o vs,s.heap.get? x=some o/\o.cls = .ref C/\o.dict=d/\o.data = .fields vs:=(r.hok x _ r.hx).1
 obtain⟨vx',ex'⟩:=hxo ox ex
 have nfr:∀b,b∈frs (env::outer)->b≠x:=fun b hb z=>by
  have:=r.frf b hb
  rw[z,r.hx]at this
  cases this
 have nft:∀b,b∈frs (env::outer)->b∉TT:=fun b hb z=>by
  obtain⟨_,o,ho,hnf⟩:=r.funs.mem hb
  obtain⟨_,_,o',ts,ho',hd'⟩:=tt b z
  rw[ho]at ho'
  cases ho'
  exact hnf ts hd'
 have old:∀b o,s0.heap.get? b=some o->b≠x/\b∉TT:=fun b o e=>⟨fun z=>absurd (Heap.lt_size e) (by rw[z];exact Nat.not_lt.mpr r.nx),fun z=>absurd (Heap.lt_size e) (Nat.not_lt.mpr (tt b z).2.1)⟩
 have there:∀b o,s.heap.get? b=some o->∃o',h'.get? b=some o':=fun b o e=>by
  by_cases c1:b=x
  ·rw[c1];exact⟨_,ex'⟩
  by_cases c2:b∈TT
  ·exact ht b c2
  by_cases c3:b∈frs (env::outer)
  ·obtain⟨sl,q⟩:=slot b o c3 e
   exact⟨_,q⟩
  ·exact⟨_,keep b o c1 c2 c3 e⟩
 have trk:∀b u,H b=some u->b≠x->∀o,s.heap.get? b=some o->h'.get? b=some o:=fun b u e c o ho =>
  keep b o c (fun z=>by rw[(tt b z).1]at e;cases e) (fun z=>by rw[r.frf b z]at e;cases e) ho
 refine⟨r.os,r.bare,⟨fun b o e n hb hx=>?_,fun b o e n hb hx=>?_,r.un.free,fun b o e hx=>?_,r.un.tups,r.un.frzs,r.un.tbls⟩,fun b u e=>?_,r.bsz,fun b o e=>?_,?_,r.frf,r.loc,r.old,r.sub,r.hx,r.nx,fl⟩
 ·exact keep b o (old b o e).1 (old b o e).2 (r.old b o e hb) (r.un.keep b o e n hb hx)
 ·obtain⟨sl,q⟩:=r.un.slot b o e n hb hx
  obtain⟨sl',q'⟩:=slot b _ (r.sub b hb) q
  exact⟨sl',q'⟩
 ·obtain⟨o',q⟩:=r.un.there b o e hx
  exact there b o' q
 ·by_cases c:b=x
  ·subst c
   rw[r.hx]at e
   cases e
   exact XO.ok ex' hcx hdx rfl
  ·refine(r.hok b u e).stay (fun b' o hb q=>?_) (fun _ q=>q) fun _ _ q=>q
   rcases hb with z | z
   ·subst z;exact trk b' u e c o q
   ·refine trk b' _ z (fun q'=>?_) o q
    rw[q',r.hx]at z
    cases z
 ·refine⟨keep b o (fun z=>?_) (fun z=>?_) (fun z=>?_) (r.bs b o e).1,(r.bs b o e).2⟩
  ·have:=(r.bs b o e).2
   rw[z,r.hx]at this
   cases this
  ·exact absurd (Heap.lt_size e) (Nat.not_lt.mpr (Nat.le_trans r.bsz (tt b z).2.1))
  ·have:=(r.funs.mem z).1
   rw[e]at this
   cases this
 ·refine r.funs.of_keeps fun b o e hnf=>?_
  by_cases c1:b=x
  ·subst c1
   rw[ex]at e
   cases e
   exact absurd hvx (hnf _)
  by_cases c2:b∈TT
  ·obtain⟨_,_,o',ts,ho',hd'⟩:=tt b c2
   rw[e]at ho'
   cases ho'
   exact absurd hd' (hnf _)
  by_cases c3:b∈frs (env::outer)
  ·obtain⟨sl,q⟩:=slot b o c3 e
   exact⟨_,q,rfl⟩
  ·exact⟨o,keep b o c1 c2 c3 e,rfl⟩
noncomputable def Tb(H:Hp)(n:Nat)(x:Addr)(h:Heap):Prop :=
 ∃o vs T oT ts,h.get? x=some o/\o.data = .fields vs/\vs[1]?=some (.ref T)/\T≠x/\n<=T/\H T=none/\h.get? T=some oT/\oT.data = .fields ts/\3<ts.size
theorem Tb.fl{H:Hp}{n:Nat}{x:Addr}{h:Heap}(t:Tb H n x h):Fl H n x h:=by
 obtain⟨o,vs,T,oT,ts,e,hd,h1,r⟩:=t
 exact⟨o,vs,e,hd,(Array.getElem?_eq_some_iff.mp h1).1,.inr ⟨T,oT,ts,h1,r⟩⟩
theorem Zf{o:Obj}{vs:Array Value}(f:Array Value->Array Value)(e:o.data = .fields vs):Obj.mapFields f o ={ o with data:=.fields (f vs) }:=by
 obtain⟨a,b,c,d⟩:=o
 have e:c = .fields vs:=e
 subst e
 rfl
section
variable{M:Model}{A:Around}{E:Value->Shared->Prop}{Q:Unit->Shared->Prop}
theorem RX.entry(r:RX P w base fs env outer H0 s0 x C d H s)(hfr:A.frames=some (env::outer)){L:Addr}(hf:env.frame=some L){head:Value}{hadNext:Bool}
  (h:∀h',RX P w base fs env outer H0 s0 x C d H { s with heap:=h' }->Tb H s0.heap.objs.size x h'->Q () { s with heap:=h' }) :
  wpAny M A (do let a <-frameOf env;let pl <-entryPlaceOf L hadNext;let b <-EntryCells.newEntry head a .none (rawInt L) .none pl;setField (.ref x) 1 b) Q E s:=by
 obtain⟨o,vs,he,hd,hsz,_⟩:=id r.fl
 have nfr:∀b,b∈frs (env::outer)->b≠x:=fun b hb z=>by
  have:=r.frf b hb
  rw[z,r.hx]at this
  cases this
 refine wpAny_bind (wpAny_frameOf_fun hfr r.funs hf fun h₁ hs₁=>?_)
 refine wpAny_bind (wpAny_entryPlaceOf fun pl hpl=>?_)
 unfold EntryCells.newEntry newFields
 refine wpAny_bind (wpAny_newObj_type ?_ (hpl.sizeOk5 _ _ _ _ _))
 have he₁:h₁.get? x=some o:=(hs₁.2.1 x fun hm=>nfr x hm rfl).trans he
 have ht5:3 <([head,Value.ref L,.none,rawInt L,.none] ++(if pl.isEmpty then List.replicate 6 Value.none else pl)).toArray.size:=by
  simp only[List.size_toArray,List.length_append,List.length_cons,List.length_nil]
  omega
 generalize ([head,Value.ref L,.none,rawInt L,.none] ++(if pl.isEmpty then List.replicate 6 Value.none else pl)).toArray=ts at ht5
 have he₂:=Heap.get?_push_of_some (h:=h₁) { cls:=.type "traceback",dict:=none,data:=.fields ts } he₁
 have hTx:h₁.objs.size≠x:=Nat.ne_of_gt (Heap.lt_size he₁)
 have hT₃:=(Heap.get?_update_other (h₁.push { cls:=.type "traceback",dict:=none,data:=.fields ts }) (Obj.mapFields (·.setIfInBounds 1 (Value.ref h₁.objs.size))) (Ne.symm hTx)).trans (Heap.get?_push_size h₁ rfl)
 have he₃:=Heap.get?_update_self (Obj.mapFields (·.setIfInBounds 1 (Value.ref h₁.objs.size))) he₂ (Obj.isFreed_of_fields (Obj.data_mapFields hd _))
 rw[Zf _ hd]at he₃
 have tb:Tb H s0.heap.objs.size x ((h₁.push { cls:=.type "traceback",dict:=none,data:=.fields ts }).update x (Obj.mapFields (·.setIfInBounds 1 (Value.ref h₁.objs.size)))) :=
  ⟨_,_,h₁.objs.size,_,ts,he₃,rfl,by simp[hsz],hTx,Nat.le_trans r.nx (Nat.le_of_lt (Heap.lt_size he₁)),r.hok.fresh (by rw[hs₁.1];exact Nat.le_refl _),hT₃,rfl,ht5⟩
 refine wpAny_setField he₂ hd hsz (h _ (r.chg (TT:=[]) (fun _ z=>nomatch z) (fun b o' hb _ hb' q=>?_) (fun b o' hb q=>?_) (fun _ z=>nomatch z) (fun o' q=>?_) tb.fl) tb)
 ·rw[Heap.get?_update_other _ _ (Ne.symm hb)]
  exact Heap.get?_push_of_some _ ((hs₁.2.1 b hb').trans q)
 ·obtain⟨sl,q'⟩:=hs₁.2.2 b o' q
  refine⟨sl,?_⟩
  rw[Heap.get?_update_other _ _ (Ne.symm (nfr b hb))]
  exact Heap.get?_push_of_some _ q'
 ·rw[he]at q
  cases q
  exact⟨_,he₃⟩
theorem RX.setT(r:RX P w base fs env outer H0 s0 x C d H s){o oT:Obj}{vs ts:Array Value}{T:Addr}{v:Value}(he:s.heap.get? x=some o)(hd:o.data = .fields vs)(h1:vs[1]?=some (.ref T))(hT:T≠x)(hn:s0.heap.objs.size<=T)(hH:H T=none)(e:s.heap.get? T=some oT)(hdT:oT.data = .fields ts)(h3:3<ts.size)
  (h:∀h',RX P w base fs env outer H0 s0 x C d H { s with heap:=h' }->Tb H s0.heap.objs.size x h'->Q () { s with heap:=h' }):wpAny M A (setField (.ref T) 3 v) Q E s:=by
 have he':=(Heap.get?_update_other s.heap (Obj.mapFields (·.setIfInBounds 3 v)) hT).trans he
 have hT':=Heap.get?_update_self (Obj.mapFields (·.setIfInBounds 3 v)) e (Obj.isFreed_of_fields (Obj.data_mapFields hdT _))
 have tb:Tb H s0.heap.objs.size x (s.heap.update T (Obj.mapFields (·.setIfInBounds 3 v))):=⟨o,vs,T,_,_,he',hd,h1,hT,hn,hH,hT',Obj.data_mapFields hdT _,by simpa using h3⟩
 refine wpAny_setField e hdT h3 (h _ (r.chg (TT:=[T]) (fun b z=>?_) (fun b o' hb hb' _ q=>?_) (fun b o' hb q=>?_) (fun b z=>?_) (fun o' q=>?_) tb.fl) tb)
 ·rw[List.mem_singleton.mp z]
  exact⟨hH,hn,_,_,e,hdT⟩
 ·rw[Heap.get?_update_other _ _ (fun z=>hb' (by rw[z];exact List.mem_singleton.mpr rfl))]
  exact q
 ·refine⟨o'.slots,?_⟩
  rw[Heap.get?_update_other _ _ (fun z=>by
   obtain⟨_,o2,ho,hnf⟩:=r.funs.mem hb
   rw[<-z,e]at ho
   cases ho
   exact hnf _ hdT)]
  exact q
 ·rw[List.mem_singleton.mp z]
  exact⟨_,hT'⟩
 ·rw[he]at q
  cases q
  exact⟨vs,by rw[he',<-hd]⟩
theorem RX.note(r:RX P w base fs env outer H0 s0 x C d H s)(hfr:A.frames=some (env::outer))
  (h:∀h',RX P w base fs env outer H0 s0 x C d H { s with heap:=h' }->Tb H s0.heap.objs.size x h'->Q () { s with heap:=h' }):wpAny M A (noteFrame (.ref x) env) Q E s:=by
 obtain⟨L,hf⟩:=r.loc
 obtain⟨o,vs,he,hd,hsz,c⟩:=id r.fl
 unfold noteFrame
 simp only[hf]
 rcases c with h1 | ⟨T,oT,ts,h1,hT,hn,hH,e,hdT,h3⟩
 ·refine wpAny_bind (wpAny_field he hd h1 ?_)
  rw[if_neg (by decide)]
  exact r.entry hfr hf h
 ·refine wpAny_bind (wpAny_field he hd h1 ?_)
  rw[if_pos (show(Value.ref T != Value.none)=true from by simp)]
  refine wpAny_bind (wpAny_field e hdT (Array.getElem?_eq_getElem h3) ?_)
  split
  ·exact wpAny_pure (h s.heap r ⟨o,vs,T,oT,ts,he,hd,h1,hT,hn,hH,e,hdT,h3⟩)
  ·refine wpAny_bind (r.setT he hd h1 hT hn hH e hdT h3 fun h' r' _=>?_)
   exact r'.entry hfr hf h
theorem RX.flight(r:RX P w base fs env outer H0 s0 x C d H s){fr:Option Addr}
  (h:∀h',RX P w base fs env outer H0 s0 x C d H { s with heap:=h' }->(Tb H s0.heap.objs.size x s.heap->Tb H s0.heap.objs.size x h')->Q () { s with heap:=h' }):wpAny M A (setFlight (.ref x) fr) Q E s:=by
 obtain⟨o,vs,he,hd,hsz,c⟩:=id r.fl
 unfold setFlight
 rcases c with h1 | ⟨T,oT,ts,h1,hT,hn,hH,e,hdT,h3⟩
 ·refine wpAny_bind (wpAny_field he hd h1 ?_)
  rw[if_neg (by decide)]
  exact wpAny_pure (h s.heap r id)
 ·refine wpAny_bind (wpAny_field he hd h1 ?_)
  rw[if_pos (show(Value.ref T != Value.none)=true from by simp)]
  exact r.setT he hd h1 hT hn hH e hdT h3 fun h' r' t'=>h h' r' fun _=>t'
theorem RX.leave(r:RX P w base fs env outer H0 s0 x C d H s)(hfr:A.frames=some (env::outer))
  (h:∀h',RX P w base fs env outer H0 s0 x C d H { s with heap:=h' }->Tb H s0.heap.objs.size x h'->Q () { s with heap:=h' }):wpAny M A (leaving env (.ref x)) Q E s:=by
 unfold leaving
 exact wpAny_bind (r.note hfr fun h' r' t'=>r'.flight fun h2 r2 t2=>h h2 r2 (t2 t'))
end
end
noncomputable def CXe(P:Program)(w:World):CXT:=fun outer H s E e s' =>
 ∃x C d H',e = .ref x/\s'.os=s.os/\AllBare s'.gens/\Un (frs outer) [] H H' s.heap s'.heap/\HOk P w H' s'.heap/\H' x=some (XO x C d)/\s.heap.objs.size<=x/\Tb H' s.heap.objs.size x s'.heap/\E (.ref C) d H'
noncomputable def XE(X:Cx)(E:XK):Value->Shared->Prop:=fun e s'=>∃x C d H',e = .ref x/\RX X.prog X.w X.base X.outer X.env X.outer X.H₀ X.s₀ x C d H' s'/\E (.ref C) d H'
section
variable{prog:Program}{w:World}{A:Around}{E:Value->Shared->Prop}{h:Heap}{g:Array GenState}{d:Drawn}{t:Nat}{os:OsState}
variable{nm q:Str}{C N:Addr}{bs bm bmB:List Value}{hdct:Bool}{sn:List Str}{sub:List Value}{ab:Bool}{col:Option Bool}{dd:Option Addr}{k0 k1 k2 k3 k5:Option Value}{B newId initId:String}
noncomputable abbrev exObj(C t:Addr):Obj:={ cls:=.ref C,data:=.fields #[.ref t,.none,.none,.none,.bool false,.none] }
noncomputable abbrev exHeap(h:Heap)(C:Addr)(rest:List Value):Heap:=(h.push { cls:=.type "tuple",data:=.seq rest.toArray }).push (exObj C h.objs.size)
end
noncomputable def XN(x C:Addr)(d:Option Addr):HO:=.ext fun h=>∃vs sl,h.get? x=some ⟨.ref C,d,.fields vs,sl⟩/\vs[1]?=some .none
theorem XN.ok{P:Program}{w:World}{H:Hp}{h:Heap}{x C:Addr}{d:Option Addr}{vs:Array Value}{sl:Array (Option Value)}(e:h.get? x=some ⟨.ref C,d,.fields vs,sl⟩)(h1:vs[1]?=some .none):ObjOk P w H h x (XN x C d) :=
 ⟨⟨vs,sl,e,h1⟩,⟨_,e⟩,fun h1 h2 ⟨vs,sl,e,r⟩ k=>⟨vs,sl,k _ e,r⟩⟩
section
variable{M:Model}{A:Around}{E:Value->Shared->Prop}{env:Env}
variable{nm q:Str}{C N:Addr}{bs bm:List Value}{hdct:Bool}{sn:List Str}{sub:List Value}{ab:Bool}{col:Option Bool}{dd:Option Addr}{k0 k1 k2 k3 k5:Option Value}{newId:String}
theorem Lh{s:Shared}{x:Sem Value}{Q:Flow->Shared->Prop}(hbase:bm.contains (.type "BaseException")=true)(hh:A.handled=none)
  (h:wpAny M A x (fun v s₁=>∃e dct vs sl,v = .ref e/\s₁.heap.get? C=some (excClassObj nm q C N bs bm hdct sn sub ab col dd k0 k1 k2 k3 k5 newId) /\
   s₁.heap.get? e=some ⟨.ref C,dct,.fields vs,sl⟩/\vs[1]?=some .none/\E (.ref e) s₁) E s) :
  wpAny M A (raiseStmt env (some x) none) Q E s:=by
 have hcB:(Value.ref C::bm).contains (.type "BaseException")=true:=by rw[List.contains_cons,hbase,Bool.or_true]
 unfold raiseStmt
 refine wpAny_bind (wpAny_mono h (fun v s₁ h₁=>?_) fun _ _ x=>x)
 obtain⟨e,dct,vs,sl,rfl,hC,he,h1,hE⟩:=h₁
 obtain⟨hp,g,d,tk,os⟩:=s₁
 repeat (first | with_reducible refine wpAny_loadPart_at he ?_ | with_reducible refine wpAny_loadPart_at hC ?_ | (with_reducible refine wpAny_isSubtype_exc hC ?_;rw[hcB]) | with_reducible refine wpAny_field he rfl h1 ?_ | wp_step)
 exact wpAny_raiseNew_none hh hE
end
structure XC(K:PySem.W.Frag)(C:Addr)(bm:List Value):Prop where
 obj:∃nm q N bs hdct sn sub ab col dd k0 k1 k2 k3 k5,K.lookup C=some (excClassObj nm q C N bs bm hdct sn sub ab col dd k0 k1 k2 k3 k5 "ValueError.__new__")
 tail:PySem.W.tailIn K [.type "ValueError",.type "Exception",.type "BaseException",.type "object"] bm=true
 kp:PySem.W.keepIn K (.ref C)=true
 sa:PySem.W.findIn K (.ref C) "__setattr__" = some (some (.builtin "object.__setattr__"))
 hd:PySem.W.hasDictIn K C=true
theorem XC.base{K:PySem.W.Frag}{C:Addr}{bm:List Value}(c:XC K C bm){h:Heap}(X:K.In h):bm.contains (.type "BaseException")=true:=(PySem.W.tail_of_in X c.tail).hasType rfl
structure BX(X:Cx)(E:XK):Prop where
 xe:X.xe=XE X E
 st:X.stack=X.env::X.outer
 fr:X.env.frame=some X.env.locals
 ex:X.ex = []
 calm:X.calm=true
section
variable{X:Cx}{pins:List (Addr×Obj)}{σ:St}{H:Hp}{s:Shared}{x C:Addr}{E:XK}
theorem Inv.rx{d:Option Addr}(I:Inv X pins σ H s)(b:BX X E)(hx:H x=some (XO x C d))(nx:X.s₀.heap.objs.size<=x)(fl:Fl H X.s₀.heap.objs.size x s.heap):RX X.prog X.w X.base X.outer X.env X.outer X.H₀ X.s₀ x C d H s:=by
 refine⟨I.os,I.bare,by have:=I.base;rw[b.ex]at this;exact this,I.hok,I.ok.bsz,I.bs,by have:=I.stack;rw[b.st]at this;exact this,by have:=I.stkFree;rw[b.st]at this;exact this,⟨_,b.fr⟩,fun c o e hc z=>?_,fun c hc=>?_,hx,nx,fl⟩
 ·unfold frs at z hc
  rw[List.filterMap_cons,b.fr]at z
  rcases List.mem_cons.mp z with q | q
  ·exact absurd (Heap.lt_size e) (by rw[q];exact Nat.not_lt.mpr I.ok.above)
  ·exact hc q
 ·unfold frs at hc⊢
  rw[List.filterMap_cons,b.fr]
  exact List.mem_cons_of_mem _ hc
theorem Tb.mono{n m:Nat}{h:Heap}(t:Tb H n x h)(k:m<=n):Tb H m x h:=by
 obtain⟨o,vs,T,oT,ts,e,hd,h1,h2,h3,r⟩:=t
 exact⟨o,vs,T,oT,ts,e,hd,h1,h2,Nat.le_trans k h3,r⟩
theorem BX.passes(b:BX X E):U4 (CXe X.prog X.w) X E:=by
 rintro pins σ H s e s' I ⟨x,C,d,H',rfl,os,bare,un,hok,hx,nx,tb,q⟩
 have I':=I.call' os un hok bare (fun b z=>absurd z (by simp))
 rw[b.xe]
 exact⟨x,C,d,H',rfl,I'.rx b hx (Nat.le_trans I.sz nx) (tb.mono I.sz).fl,q⟩
end
section
variable{X:Cx}{C f:Addr}{fd:FuncData}{ps:List Str}{sp:Sp}{E:XK}{bm:List Value}{k:Nat}{n:Str}{p pos cpos:Pos}{e:Expr}{es:List Expr}{t:TA}
theorem BX.made{pins:List (Addr×Obj)}{σ:St}{H:Hp}{s:Shared}{x:Addr}{d:Option Addr}(b:BX X E)(I:Inv X pins σ H s)(hx:H x=some (XN x C d))(nx:X.s₀.heap.objs.size<=x)(q:E (.ref C) d (upd H x (XO x C d))) :
  ∃vs sl,s.heap.get? x=some ⟨.ref C,d,.fields vs,sl⟩/\vs[1]?=some .none/\X.xe (.ref x) s:=by
 obtain⟨vs,sl,ex,h1⟩:∃vs sl,s.heap.get? x=some ⟨.ref C,d,.fields vs,sl⟩/\vs[1]?=some .none:=(I.hok x _ hx).1
 refine⟨vs,sl,ex,h1,?_⟩
 have I4:Inv X pins σ (upd H x (XO x C d)) s:=I.write (x:=x) (e:=x) (h':=s.heap) (t':=s.toks) (by rw[hx];exact True.intro) (.inl rfl) (fun _ _ _ z=>z) ⟨_,ex⟩ (XO.ok ex rfl rfl rfl)
 rw[b.xe]
 exact⟨x,C,d,_,rfl,I4.rx b A9 nx ⟨_,vs,ex,rfl,(Array.getElem?_eq_some_iff.mp h1).1,.inl h1⟩,q⟩
end
section
variable{P:Program}{w:World}{K:PySem.W.Frag}{mg:Str->Option Value}{base:Heap}
noncomputable abbrev cxE(P:Program)(w:World)(K:PySem.W.Frag)(mg:Str->Option Value)(base:Heap)(N:List Str)(qual:Str)(scope:Scope)(f:Addr)(cd:Value)(A:Around)(outer:List Env)(s:Shared)(H:Hp)(E:XK):Cx :=
 (Pj (CXe P w) P w K mg base N qual scope f cd A outer s H E).wish (XE (Pj (CXe P w) P w K mg base N qual scope f cd A outer s H E) E)
theorem cxE.bx{N:List Str}{qual:Str}{scope:Scope}{f:Addr}{cd:Value}{A:Around}{outer:List Env}{s:Shared}{H:Hp}{E:XK}:BX (cxE P w K mg base N qual scope f cd A outer s H E) E:=⟨rfl,rfl,rfl,rfl,rfl⟩
theorem PSs.wishI{X:Cx}{E:Value->Shared->Prop}{st:List Stmt}{t:TS}(k:X.A.frames=some X.stack->∀e s,E e s->X.xe e s)(h:PSs (X.wish E) st t):PSs X st t:=fun pins s σ H D I hw =>
 wpAny_mono (h pins s σ H D (I.wish _) hw) (fun _ _ q=>q.unwish) (k I.ok.frames)
theorem Fun.okE{x qual:Str}{st:Stmt}{f:Addr}{fd:FuncData}{N ps:List Str}{k:Nat}{sp:Sp}(F:Fun K x qual st f fd)(S:FnScope N ps (B4 st))(len:∀vs H Q E,sp vs H Q E->vs.length=ps.length)
  (hbody:∀(cdv:Value) (A:Around) (outer:List Env) (s:Shared) (H:Hp) (vs:List V) (Q:VK) (E:XK),Room k (A.deeper (envOfC qual (B4 st) s.heap.objs.size f cdv))->sp vs H Q E ->
   ∃t,PSs (cxE P w K mg base N qual (B4 st) f cdv A outer s H E) (G8 st) t/\t { nx:=fun _ H'=>Q .non H',rt:=Q } (Bt N vs) H):FnOk P w K mg base (CXe P w) (k+1) f fd ps sp:=by
 obtain⟨oc,od,kV,doc,pm,an,cdv,ct,osl,rfl,lk,hcd⟩:=F.ex
 refine Tp lk hcd S len fun A outer s H vs Q E hr hsp=>?_
 obtain⟨t,h,q⟩:=hbody cdv A outer s H vs Q E hr hsp
 refine⟨t,h.wishI fun hf e s' z=>?_,q⟩
 obtain⟨x,C,d,H',rfl,r,q⟩:=z
 exact RX.leave r hf fun h' r' t'=>⟨x,C,d,H',rfl,r'.os,r'.bare,r'.un,r'.hok,r'.hx,r'.nx,t',q⟩
end
noncomputable def PEx(X:Cx)(e:Expr)(t:XK->TE):Prop:=∀(pins:List (Addr×Obj)) (s:Shared) (σ:St) (H:Hp) (Q:VK) (E:XK),Inv X pins σ H s->t E σ H Q ->
 wpAny (model X.prog X.w) X.A (eval e X.env) (EP X pins σ Q) (fun ev s'=>∃s1 H1,Inv X pins σ H1 s1/\CXe X.prog X.w X.stack H1 s1 E ev s') s
section
variable{X:Cx}{k:Nat}{f C:Addr}{fd:FuncData}{ps:List Str}{sp:Sp}{x m:Str}{p pos apos:Pos}{e o:Expr}{es:List Expr}{ta:TE}{t:TA}
theorem Ph(nox:∀e s,¬X.xe e s)(F:FnOk X.prog X.w X.K X.mg X.base (CXe X.prog X.w) k f fd ps sp)(hr:Room k X.A)(hg:Gl X x)(hm:X.mg x=some (.ref f))(hk:PySem.W.keepIn X.K (.ref f)=true)(hb:Binds X.K fd ps [])
  (ha:PA X (e::es) t) (hdb:(x ==("__debug__":Str))=false:=by decide) (he:starEach (e::es) X.env =(false,eval e X.env)::starEach es X.env:=by rfl) (hpl:(backTo pos (starEach es X.env)).any (·.1)=false:=by rfl) :
  PEx X (.Call (.Name x p) (e::es) [] pos) (fun E=>Jx sp [] E t):=by
 intro pins s σ H Q E I h
 refine wpAny_Call_Name_kw (V9 I hg hm ?_ hdb)
 refine PySem.W.callWith_K (h₀:=X.base) I.ok.mod.kin hk (wpAny_mono (ha pos pins s σ H _ I h) (fun us s1 ⟨vs,H1,I1,r,q⟩=>⟨I1.kIn,?_⟩) fun _ _ z=>(nox _ _ z).elim) he hpl
 have q:sp vs H1 Q E:=by
  have:sp (vs ++ []) H1 Q E:=q
  rwa [List.append_nil]at this
 have hl:us.length=ps.length:=by rw[<-r.length];exact F.len _ _ _ _ q
 have bd:=hb s1 us I1.kIn (by rw[List.append_nil];exact hl)
 rw[List.append_nil]at bd
 refine wpAny_call (codeAny_mono (F.run X.A X.stack s1 H1 ⟨us,[]⟩ us vs Q E hr I1.env0 bd r q) fun r s' hq=>?_)
 cases r with
 | error e=>exact⟨_,_,I1,hq⟩
 | ok fl =>
  cases fl with
  | ret u=>exact I1.after hq
  | next=>exact False.elim hq
  | brk=>exact False.elim hq
  | cont=>exact False.elim hq
end
section
variable{M:Model}{A:Around}{E:Value->Shared->Prop}{h:Heap}{g:Array GenState}{dn:Drawn}{tk:Nat}{os:OsState}
variable{nm q nm' q':Str}{C N S N':Addr}{bs bm bs' bm':List Value}{hdct hdct':Bool}{sn sn':List Str}{sub sub':List Value}{ab ab':Bool}{col col':Option Bool}{dd dd':Option Addr}{k0 k1 k2 k3 k5 j0 j1 j2 j3 j5:Option Value}{newId newId':String}
theorem Yr{e:Addr}{oe:Obj}{Q:Bool->Shared->Prop}(hC:h.get? C=some (excClassObj nm q C N bs bm hdct sn sub ab col dd k0 k1 k2 k3 k5 newId))(hS:h.get? S=some (excClassObj nm' q' S N' bs' bm' hdct' sn' sub' ab' col' dd' j0 j1 j2 j3 j5 newId'))(he:h.get? e=some oe)(hcls:oe.cls = .ref C)
  (hb:bm'.contains (.type "BaseException")=true) (hc:(Value.ref C::bm).contains (.ref S)=true) (hq:Q true ⟨h,g,dn,tk,os⟩):wpAny M A (excMatches (.ref e) (.ref S)) Q E ⟨h,g,dn,tk,os⟩:=by
 have hcB:(Value.ref S::bm').contains (.type "BaseException")=true:=by rw[List.contains_cons,hb,Bool.or_true]
 have f:=tc_notTuple
 unfold excMatches
 repeat (first | (with_reducible refine wpAny_loadPart_at he ?_;rw[hcls]) | with_reducible refine wpAny_loadPart_at hS ?_ | with_reducible refine wpAny_loadPart_at hC ?_ | (with_reducible refine wpAny_isSubtype_exc hS ?_;rw[hcB]) | (with_reducible refine wpAny_isSubtype_exc hC ?_;rw[hc]) | wp_step)
 exact hq
end
noncomputable abbrev Xm(X:Cx)(ev:Value):Cx:={ X with A:=X.A.mark (some ev),calm:=false }
section
variable{X:Cx}{pins:List (Addr×Obj)}{σ:St}{H:Hp}{s:Shared}{ev:Value}
theorem Inv.mark(I:Inv X pins σ H s)(ev:Value):Inv (Xm X ev) pins σ H s :=
 ⟨⟨I.ok.mod,I.ok.kind,I.ok.glob,I.ok.blt,I.ok.above,I.ok.inj,I.ok.has,I.ok.cab,fun z=>absurd z (by simp),I.ok.frames,I.ok.stk,I.ok.exf,I.ok.bs,I.ok.bsz,I.ok.noex,I.ok.exfs,I.ok.funs,I.ok.frf⟩,I.os,I.bare,I.base,I.loc,I.cell,I.free,I.freeC,I.pin,I.hok,I.len⟩
theorem Inv.unmark(ok:X.Ok)(I:Inv (Xm X ev) pins σ H s):Inv X pins σ H s:=⟨ok,I.os,I.bare,I.base,I.loc,I.cell,I.free,I.freeC,I.pin,I.hok,I.len⟩
end
structure XG(K:PySem.W.Frag)(C:Addr):Prop where
 ga:PySem.W.findIn K (.ref C) "__getattribute__" = some (some (.builtin "BaseException.__getattribute__"))
 gn:PySem.W.findIn K (.ref C) "__getattr__" = some none
 mb:PySem.W.mroIn K C (.type "BaseException")=some true
 hd:PySem.W.hasDictIn K C=true
theorem xc_mk{K:PySem.W.Frag}{nm q:Str}{C N:Addr}{bs bm:List Value}{hdct:Bool}{sn:List Str}{sub:List Value}{ab:Bool}{col:Option Bool}{dd:Option Addr}{k0 k1 k2 k3 k5:Option Value}
  (l:K.lookup C=some (excClassObj nm q C N bs bm hdct sn sub ab col dd k0 k1 k2 k3 k5 "ValueError.__new__")) (t:PySem.W.tailIn K [.type "ValueError",.type "Exception",.type "BaseException",.type "object"] bm=true) (k:PySem.W.keepIn K (.ref C)=true)
  (s:PySem.W.findIn K (.ref C) "__setattr__" = some (some (.builtin "object.__setattr__"))) (d:PySem.W.hasDictIn K C=true):XC K C bm:=⟨⟨_,_,_,_,_,_,_,_,_,_,_,_,_,_,_,l⟩,t,k,s,d⟩
section
variable{X:Cx}{E:XK}
theorem Hi{x:Str}{st:Stmt}{ps:List Str}{k:Nat}{sp:Sp}{e:Expr}{es:List Expr}{t:TA}{p pos:Pos}(b:BX X E)(D:Fn X.K X.mg x st ps)(G:FnOk X.prog X.w X.K X.mg X.base (CXe X.prog X.w) k D.f D.fd ps sp)(hr:Room k X.A)(ha:PA X (e::es) t)
  (hg:Gl X x:=by rfl) (hdb:(x ==("__debug__":Str))=false:=by decide) (hs:starEach (e::es) X.env =(false,eval e X.env)::starEach es X.env:=by rfl) (hpl:(backTo pos (starEach es X.env)).any (·.1)=false:=by rfl) :
  PE X (.Call (.Name x p) (e::es) [] pos) (Jx sp [] E t):=Kf G hr hg D.m D.F.kp D.b .nil b.passes ha hdb hs hpl
end
section
variable{prog:Program}{w:World}{A:Around}{E:Value->Shared->Prop}{h:Heap}{g:Array GenState}{d:Drawn}{t:Nat}{os:OsState}
variable{nm q:Str}{C N:Addr}{bs bm bmB:List Value}{hdct:Bool}{sn:List Str}{sub:List Value}{ab:Bool}{col:Option Bool}{dd:Option Addr}{k0 k1 k2 k3 k5:Option Value}{B newId initId:String}
theorem My{K:PySem.W.Frag}{rest:List Value}{Q:Fin->Shared->Prop}(F:ExcBaseFacts B newId initId bmB)(T:OwnTail h bmB bm)(X:K.In h)
  (hC:h.get? C=some (excClassObj nm q C N bs bm hdct sn sub ab col dd k0 k1 k2 k3 k5 newId)) (hi:PySem.W.findIn K (.ref C) "__init__" = some (some (.builtin initId)))
  (hrest:rest.length<=sizeLine) (hq:∀h',(∀b o,h.get? b=some o->h'.get? b=some o)->(∃tt,h'.get? (h.objs.size+1)=some { cls:=.ref C,data:=.fields #[.ref tt,.none,.none,.none,.bool false,.none] })->Q (.done (.ret (.ref (h.objs.size+1)))) ⟨h',g,d,t,os⟩) :
  wpAny (model prog w) A (Builtin.«type.__call__» ⟨.ref C::rest,[]⟩) Q E ⟨h,g,d,t,os⟩:=by
 have kp:∀b o,h.get? b=some o->(exHeap h C rest).get? b=some o:=fun b o e=>Heap.get?_push_of_some _ (Heap.get?_push_of_some _ e)
 have hC₁:(exHeap h C rest).get? C=some (excClassObj nm q C N bs bm hdct sn sub ab col dd k0 k1 k2 k3 k5 newId):=kp _ _ hC
 have hget:(exHeap h C rest).get? (h.objs.size+1)=some (exObj C h.objs.size):=by unfold exHeap;heap_get
 have hcC:(Value.ref C::bm).contains (.ref C)=true:=by simp
 have X₁:K.In (exHeap h C rest):=X.keeps kp
 have T₁:=T.keeps kp
 repeat (first | with_reducible refine wpAny_loadPart_at hC ?_ | with_reducible refine wpAny_madeBy_exc hC ?_ | wp_step)
 refine codeAny_call_builtin_code (Code.quiet_builtin _ F.quiet) (wpAny_check_new_subT F T hC (codeAny_exc_new_subT F T hC ?_ hrest))
 show wpAny _ _ _ _ _ ⟨exHeap h C rest,g,d,t,os⟩
 have hM:∀h2,(∀b o,(exHeap h C rest).get? b=some o->b≠h.objs.size+1->h2.get? b=some o)->(∃tt,h2.get? (h.objs.size+1)=some { cls:=.ref C,data:=.fields #[.ref tt,.none,.none,.none,.bool false,.none] }) ->
   Q (.done (.ret (.ref (h.objs.size+1)))) ⟨h2,g,d,t,os⟩:=fun h2 k th=>hq h2 (fun b o e=>k b o (kp b o e) (fun z=>by rw[z]at e;exact absurd (Heap.lt_size e) (Nat.not_lt.mpr (Nat.le_succ _)))) th
 have hsz:(exHeap h C rest).objs.size=h.objs.size+2:=by unfold exHeap;simp only[Heap.size_push]
 generalize exHeap h C rest=h1 at hC₁ hget X₁ T₁ hM hsz⊢
 unfold isInstance
 repeat (first | with_reducible refine wpAny_loadPart_at hget ?_ | (with_reducible refine wpAny_isSubtype_exc hC₁ ?_;rw[hcC]) | wp_step)
 show wpAny _ _ (typeLookup (.ref C) _) _ _ _
 refine PySem.W.Looks.here (s:=⟨h1,g,d,t,os⟩) (PySem.W.looks_findIn X₁ hi) ?_
 refine wpAny_holding (wpAny_bind (wpAny_of_eq (F.init.bind _) ?_))
 refine wpAny_bind (wpAny_call (codeAny_call_builtin F.init.plain F.initEntry (wpAny_check_init_subT F T₁ hC₁ hget rfl ?_)))
 wp_walk
 refine hM _ (fun b o e hb=>?_) ⟨h.objs.size+2,?_⟩
 ·rw[Heap.get?_update_other _ _ (Ne.symm hb)]
  exact Heap.get?_push_of_some _ e
 ·rw[Heap.get?_update_self _ (Heap.get?_push_of_some _ hget) rfl,hsz]
  rfl
theorem Li{K:PySem.W.Frag}{rest:List Value}{Q:Value->Shared->Prop}(F:ExcBaseFacts B newId initId bmB)(T:OwnTail h bmB bm)(X:K.In h)
  (hC:h.get? C=some (excClassObj nm q C N bs bm hdct sn sub ab col dd k0 k1 k2 k3 k5 newId)) (hi:PySem.W.findIn K (.ref C) "__init__" = some (some (.builtin initId)))
  (hrest:rest.length<=sizeLine) (hq:∀h',(∀b o,h.get? b=some o->h'.get? b=some o)->(∃tt,h'.get? (h.objs.size+1)=some { cls:=.ref C,data:=.fields #[.ref tt,.none,.none,.none,.bool false,.none] })->Q (.ref (h.objs.size+1)) ⟨h',g,d,t,os⟩) :
  wpAny (model prog w) A (call (.ref C) rest) Q E ⟨h,g,d,t,os⟩:=by
 have f1:=tc_lookup
 have f2:=tc_bind (.ref C)
 have hT:(⟨h,g,d,t,os⟩:Shared).TypeIs (.ref C) "type":=⟨_,hC,rfl⟩
 refine wpAny_call (codeAny_of_tree ?_)
 show wpAny _ _ (callAny (.ref C) _) _ _ _
 repeat (any_goals (first | assumption | with_reducible refine wpAny_loadPart_at hC ?_ | wp_step))
 refine⟨rfl,?_⟩
 exact codeAny_call_builtin_at (Code.quiet_builtin _ (by decide +kernel)) entry_typeCall (wpAny_check_type_call_sub hC (My F T X hC hi hrest hq))
end
noncomputable def Pr(K:PySem.W.Frag)(C:Addr):Prop:=PySem.W.findIn K (.ref C) "__init__" = some (some (.builtin "ValueError.__init__"))
section
variable{X:Cx}{pins:List (Addr×Obj)}{σ:St}{H:Hp}{s:Shared}{C:Addr}{bm:List Value}{E:Value->Shared->Prop}
theorem Pe{us:List Value}{Q:Value->Shared->Prop}(c:XC X.K C bm)(ni:Pr X.K C)(I:Inv X pins σ H s)(hus:us.length<=sizeLine)(h:∀x s',H x=none->X.s₀.heap.objs.size<=x->Inv X pins σ (upd H x (XN x C none)) s'->Q (.ref x) s') :
  wpAny (model X.prog X.w) X.A (call (.ref C) us) Q E s:=by
 obtain⟨nm,q,N,bs,hdct,sn,sub,ab,col,dd,k0,k1,k2,k3,k5,hobj⟩:=c.obj
 have sz:=I.sz
 obtain⟨hp,g,dn,tk,os⟩:=s
 refine Li PySem.F.excBase_ValueError (PySem.W.tail_of_in I.kIn c.tail) I.kIn (I.kIn _ _ hobj) ni hus fun h' kp ⟨tt,he⟩=>?_
 exact h _ _ (I.hok.fresh (Nat.le_succ _)) (Nat.le_trans sz (Nat.le_succ _)) (I.laid (t':=tk) kp (Nat.le_succ _) (XN.ok he rfl))
end
noncomputable def Rt(C:Addr)(E:XK)(t:TA):TS:=fun _ σ H=>t σ H fun vs H1=>vs.length<=sizeLine/\∀x,H1 x=none->E (.ref C) none (upd H1 x (XO x C none))
section
variable{X:Cx}{C f:Addr}{fd:FuncData}{ps:List Str}{sp:Sp}{E:XK}{bm:List Value}{k:Nat}{n:Str}{p pos cpos:Pos}{e:Expr}{es:List Expr}{t:TA}
theorem Jv(b:BX X E)(c:XC X.K C bm)(ni:Pr X.K C)(hg:Gl X n)(hm:X.mg n=some (.ref C))(ha:PA X (e::es) t)
  (hdb:(n ==("__debug__":Str))=false:=by decide) (he:starEach (e::es) X.env =(false,eval e X.env)::starEach es X.env:=by rfl) (hpl:(backTo cpos (starEach es X.env)).any (·.1)=false:=by rfl) :
  PS X (.Raise (some (.Call (.Name n p) (e::es) [] cpos)) none pos) (Rt C E t):=by
 intro pins s σ H D I h
 obtain⟨nm,q,N,bs,hdct,sn,sub,ab,col,dd,k0,k1,k2,k3,k5,hobj⟩:=c.obj
 have hh:X.A.handled=none:=I.ok.hd b.calm
 rw[arm_exec_Raise]
 refine wpAny_bind (wpAny_standAt (Lh (C:=C) (nm:=nm) (q:=q) (N:=N) (bs:=bs) (bm:=bm) (hdct:=hdct) (sn:=sn) (sub:=sub) (ab:=ab) (col:=col) (dd:=dd) (k0:=k0) (k1:=k1) (k2:=k2) (k3:=k3) (k5:=k5) (newId := "ValueError.__new__") (c.base I.kIn) hh (wpAny_bind (wpAny_mono ?_ (fun v s₃ h₃=>wpAny_bind (wpAny_standAt (wpAny_pure h₃))) fun _ _ x=>x))))
 refine wpAny_Call_Name_kw (V9 I hg hm ?_ hdb)
 refine PySem.W.callWith_K (h₀:=X.base) I.ok.mod.kin c.kp (thn (ha cpos pins s σ H _ I h) fun us s1 ⟨vs,H1,I1,r,hl,q⟩=>⟨I1.kIn,?_⟩) he hpl
 refine Pe (us:=us) c ni I1 (by rw[<-r.length];exact hl) fun x s2 hx nx I2=>?_
 obtain⟨vs',sl,ex,h1,z⟩:=b.made (d:=none) I2 A9 nx (by rw[Rq];exact q x hx)
 exact⟨_,none,vs',sl,rfl,I2.kIn _ _ hobj,ex,h1,z⟩
end
noncomputable def PSx(X:Cx)(st:List Stmt)(t:XK->TS):Prop:=∀(pins:List (Addr×Obj)) (s:Shared) (σ:St) (H:Hp) (D:Ends) (E:XK),Inv X pins σ H s->t E D σ H ->
 wpAny (model X.prog X.w) X.A (execs st X.env) (SP X pins D) (fun ev s'=>∃s1 H1,Inv X pins σ H1 s1/\CXe X.prog X.w X.stack H1 s1 E ev s') s
noncomputable def own(scope:Scope)(cl:List (Str×Addr))(n:Nat):List (Str×Addr):=cellsFrom (n+1) scope.names cl
theorem J4:∀(names:List (Str×NameKind)) (n:Nat) (acc:List (Str×Addr)),cellsFrom n names acc=cellsFrom n names []++acc
 | [],_,_=>rfl
 | (y,k)::r,n,acc=>by
  unfold cellsFrom
  split
  ·rw[J4 r (n+1) ((y,n)::acc),J4 r (n+1) [(y,n)],List.append_assoc];rfl
  ·exact J4 r n acc
theorem Ae{α:Type}(x:Str):∀(l m:List (Str×α)),(l++m).lookup x =(l.lookup x).or (m.lookup x)
 | [],m=>rfl
 | (y,c)::r,m=>by
  rw[List.cons_append,List.lookup_cons,List.lookup_cons]
  cases x == y with
  | true=>rfl
  | false=>exact Ae x r m
theorem T5{scope:Scope}{cl:List (Str×Addr)}{n:Nat}{x:Str}{c:Addr}(h:(own scope cl n).lookup x=some c):(cellsFrom (n+1) scope.names []).lookup x=some c\/((cellsFrom (n+1) scope.names []).lookup x=none/\cl.lookup x=some c):=by
 unfold own at h
 rw[J4,Ae]at h
 cases e:(cellsFrom (n+1) scope.names []).lookup x with
 | some d=>rw[e]at h;exact .inl h
 | none=>rw[e]at h;exact .inr ⟨rfl,h⟩
noncomputable def cxD(X:Cx)(scope:Scope)(cl:List (Str×Addr))(N':List Str)(pins:List (Addr×Obj))(ex:List Addr)(s3:Shared)(H3:Hp):Cx where
 prog:=X.prog
 w:=X.w
 K:=X.K
 mg:=X.mg
 base:=X.base
 A:=X.A
 N:=N'
 s₀:=s3
 H₀:=H3
 env:=compEnvC scope (own scope cl s3.heap.objs.size) s3.heap.objs.size X.env
 outer:=X.stack
 stack:=X.stack
 ex:=ex
 fn:=fun x=>scope.names.lookup x == some .cell
 calm:=X.calm
 pn:=X.pn++pins
 xe:=fun _ _=>False
structure DScope(X:Cx)(scope:Scope)(cl:List (Str×Addr))(N':List Str)(cap:List (Option Nat)):Prop where
 kind:scope.kind = .function
 loc:∀y∈scope.names,y.2 = .local->scope.names.lookup y.1=some .local
 clos:closureFor scope X.env=pure cl
 cin:ClIn X cl
 has:∀n,((relabel scope X.env).names.all fun y=>!(y.2 == .cell||y.2 == .free)||((own scope cl n).lookup y.1).isSome)=true
 caps:∀n,Caps X scope (own scope cl n) N' cap
section
variable{X:Cx}{scope:Scope}{cl:List (Str×Addr)}{N':List Str}{cap:List (Option Nat)}{pins:List (Addr×Obj)}{σ:St}{H3:Hp}{s3:Shared}{ex:List Addr}
theorem Inv.blockD(I:Inv X pins σ H3 s3)(S:DScope X scope cl N' cap)(hc:X.calm=true)(hex:∀b∈ex,u9 X pins H3 b/\∃o,s3.heap.get? b=some o){h1:Heap}{tk:Nat}
  (hns:h1.Ns s3.heap.objs.size (fun _=>none)) (hk:∀b o,s3.heap.get? b=some o->h1.get? b=some o) (ok:CellsOk h1 (s3.heap.objs.size+1) (cellsFrom (s3.heap.objs.size+1) scope.names [])) :
  Inv (cxD X scope cl N' pins ex s3 H3) [] (Je cap σ) H3 { s3 with heap:=h1,toks:=tk }:=by
 have lt3:∀b o,s3.heap.get? b=some o->b≠s3.heap.objs.size:=fun b o e=>Nat.ne_of_lt (Heap.lt_size e)
 have old:∀x c,cl.lookup x=some c->∃v,s3.heap.IsCell c v:=fun x c e=>I.cell x c (S.cin.get e)
 have new:∀{x c},(cellsFrom (s3.heap.objs.size+1) scope.names []).lookup x=some c->h1.IsCell c none/\s3.heap.objs.size+1<=c:=fun e=>ok.empty _ _ (PySem.mem_of_lookup e)
 have hfree:H3 s3.heap.objs.size=none:=I.hok.fresh (Nat.le_refl _)
 have olt:∀x c,cl.lookup x=some c->c<s3.heap.objs.size:=fun x c e=>let⟨_,h⟩:=old x c e;h.lt
 refine⟨⟨I.ok.mod,?_,I.ok.glob,I.ok.blt,Nat.le_refl _,fun x y c e1 e2=>?_,fun x hx=>?_,fun x c h e=>?_,I.ok.hd,I.ok.frames,.inl rfl,fun b hb=>?_,I.bs,Nat.le_trans I.ok.bsz I.sz,fun b o e hb=>?_,fun b hb=>?_,I.stack,I.stkFree⟩,
  rfl,I.bare,Un.kept hk,⟨_,hns,fun i x v e1 e2 e3=>?_⟩,fun x c e=>?_,hfree,fun x c e=>?_,fun p hp=>?_,I.hok.kept hk,?_⟩
 ·exact S.kind
 ·rcases T5 e1 with a | ⟨_,a⟩<;>rcases T5 e2 with b | ⟨_,b⟩
  ·exact name_of_addr ok.apart (PySem.mem_of_lookup a) (PySem.mem_of_lookup b)
  ·exact absurd (Nat.lt_of_lt_of_le (olt _ _ b) (Nat.le_of_succ_le (new a).2)) (Nat.lt_irrefl _)
  ·exact absurd (Nat.lt_of_lt_of_le (olt _ _ a) (Nat.le_of_succ_le (new b).2)) (Nat.lt_irrefl _)
  ·exact I.ok.inj x y c (S.cin.get a) (S.cin.get b)
 ·have q:∀k,(relabel scope X.env).names.lookup x=some k->(!(k == .cell||k == .free)||((own scope cl s3.heap.objs.size).lookup x).isSome)=true:=fun k e=>W0 (p:=fun _=>true) (q:=fun a k=>!(k == .cell||k == .free)||((own scope cl s3.heap.objs.size).lookup a).isSome) (S.has _) e
  have hx':(relabel scope X.env).names.lookup x=some .cell\/(relabel scope X.env).names.lookup x=some .free:=hx
  have:((own scope cl s3.heap.objs.size).lookup x).isSome=true:=by
   rcases hx' with e | e
   ·exact q _ e
   ·exact q _ e
  exact Option.isSome_iff_exists.mp this
 ·have h:scope.names.lookup x=some .cell:=beq_iff_eq.mp h
  have q:=PySem.W.cellsFrom_some scope.names (s3.heap.objs.size+1) [] (.inl h)
  rcases T5 e with a | ⟨a,_⟩
  ·exact Nat.le_of_succ_le (new a).2
  ·rw[a]at q;cases q
 ·obtain⟨⟨_,_,_,_,f4,_⟩,o,e⟩:=hex b hb
  refine⟨lt3 b o e,fun x c ec=>?_⟩
  rcases T5 ec with a | ⟨_,a⟩
  ·exact Nat.ne_of_gt (Nat.lt_of_lt_of_le (Heap.lt_size e) (Nat.le_of_succ_le (new a).2))
  ·exact f4 x c (S.cin.get a)
 ·obtain⟨⟨f0,f1,f2,f3,_⟩,_⟩:=hex b hb
  rcases f3 with f3 | f3
  ·exact I.ok.noex b o e f3
  ·have:=(I.ok.bs b o e).1
   exact absurd (Nat.lt_of_lt_of_le (Heap.lt_size this) f3) (Nat.lt_irrefl _)
 ·intro hf
  obtain⟨⟨_,f1,f2,_⟩,_⟩:=hex b hb
  rcases List.mem_cons.mp (I.stkSub b hf)with z | z
  ·exact f1 z
  ·exact f2 z
 ·unfold Je at e2
  rw[List.getElem?_map]at e2
  cases ec:cap[i]? with
  | none=>rw[ec]at e2;cases e2
  | some o =>
   rw[ec]at e2
   cases o with
   | none=>cases e2
   | some j =>
    have e2':(σ[j]?).join=some v:=Option.some.inj e2
    obtain⟨c1,c2,c3,c4⟩:=(S.caps s3.heap.objs.size).get e1 ec
    have ej:σ[j]?=some (some v):=by
     cases ej:σ[j]? with
     | none=>rw[ej]at e2';cases e2'
     | some z=>rw[ej]at e2';cases z with
      | none=>cases e2'
      | some z=>cases e2';rfl
    obtain⟨m,hn,hl⟩:=I.loc
    obtain⟨u,r,l⟩:=hl j x v c1 ej (.inr (.inl c2))
    refine⟨u,r,?_⟩
    rcases l with⟨k,_⟩ | ⟨_,c,hc',hcell'⟩
    ·have:X.env.scope.names.lookup x=some .local:=k
     rw[c2]at this;cases this
    ·exact .inr ⟨.inl c3,c,c4.trans hc',let⟨o,ho,hd⟩:=hcell';⟨o,hk _ _ ho,hd⟩⟩
 ·rcases T5 e with a | ⟨_,a⟩
  ·exact⟨_,(new a).1⟩
  ·obtain⟨v,o,ho,hd⟩:=old x c a
   exact⟨v,o,hk _ _ ho,hd⟩
 ·rcases T5 e with a | ⟨_,a⟩
  ·exact I.hok.fresh (Nat.le_of_succ_le (new a).2)
  ·exact I.freeC x c (S.cin.get a)
 ·have hp':p∈X.pn++pins:=by simpa [cxD] using hp
  obtain⟨e,n,ne,nf,d⟩:=I.pin p hp'
  refine⟨hk _ _ e,n,lt3 _ _ e,fun hf=>?_,d⟩
  rcases List.mem_cons.mp (I.stkSub p.1 hf)with z | z
  ·exact ne z
  ·exact nf z
 ·unfold Je
  rw[List.length_map]
  exact(S.caps 0).len
theorem Inv.unblockD{σ':St}{H':Hp}{s':Shared}{h':Heap}(I:Inv X pins σ H3 s3)(hex:∀b∈ex,u9 X pins H3 b)(J:Inv (cxD X scope cl N' pins ex s3 H3) [] σ' H' s')(hb:Heap.SameBut s3.heap.objs.size s'.heap h') :
  Inv X pins σ H' { s' with heap:=h' }:=by
 have hfr:H' s3.heap.objs.size=none:=J.free
 refine I.call' (ch:=ex) J.os ⟨fun b o e n h1 h2=>?_,fun b o e n h1 h2=>?_,fun b o e n h2=>?_,fun b o e h2=>?_,J.base.tups,J.base.frzs,J.base.tbls⟩ (fun b ob e=>?_) J.bare fun b hbx=>?_
 ·exact(hb.2 b (Nat.ne_of_lt (Heap.lt_size e))).trans (J.base.keep b o e n h1 h2)
 ·obtain⟨sl,q⟩:=J.base.slot b o e n h1 h2
  exact⟨sl,(hb.2 b (Nat.ne_of_lt (Heap.lt_size e))).trans q⟩
 ·exact J.base.free b o e n h2
 ·obtain⟨o',q⟩:=J.base.there b o e h2
  exact⟨o',(hb.2 b (Nat.ne_of_lt (Heap.lt_size e))).trans q⟩
 ·refine(J.hok b ob e).stay (fun c w' hc q=>(hb.2 c ?_).trans q) (fun _ q=>q) fun _ _ q=>q
  rintro rfl
  rcases hc with z | z
  ·rw[<-z,hfr]at e;cases e
  ·rw[hfr]at z;cases z
 ·obtain⟨_,f1,_,f3,f4,f5⟩:=hex b hbx
  exact⟨f3,f1,f4,f5⟩
end
theorem Ij{M:Model}{A:Around}{E:Value->Shared->Prop}{s:Shared}{scope:Scope}{globals:Addr}{cl:List (Str×Addr)}{qual:Str}{env:Env}{Q:Env->Shared->Prop}
  (hQ:∀b,Q (newEnv scope s.heap.objs.size globals (own scope cl s.heap.objs.size) qual none .none (some env) b) { s with heap:=pushCells (s.heap.push { cls:=.type "dict",data:=.dict #[] }) scope.names }) :
  wpAny M A (newFunctionEnv scope globals cl [] qual none .none (some env)) Q E s:=by
 simp only[newFunctionEnv,Option.isSome_some,if_true]
 refine wpAny_bind (wpAny_alloc ?_)
 refine wpAny_bind (wpAny_layCells _ (fun name kind cells=>by cases hkc:kind == NameKind.cell<;>simp[hkc]) _ _ _ _ ?_)
 rw[show({ s with heap:=s.heap.push { cls:=.type "dict",data:=.dict #[] } }:Shared).heap.objs.size=s.heap.objs.size+1 from Heap.size_push ..]
 rw[List.forIn_nil]
 exact wpAny_bind (wpAny_pure (wpAny_pure (hQ 0)))
section
variable{X:Cx}{tg iter:Expr}{ifs:List Expr}{g:TG}{tc:TT}{em:TEm}{scope:Scope}{cl:List (Str×Addr)}{N':List Str}{cap:List (Option Nat)}{pos:Pos}{wi:TI}
theorem Jl{e:Expr}{gs:List Comprehension}{newAcc:Sem Value}{p2:Pos}(hcl:clausesOf e =⟨tg,iter,ifs,0⟩::gs)(o:Addr->HO)(hs:∀x,foldedSetIterable iter X.env x=pure x)(S:DScope X scope cl N' cap)(hc:X.calm=true)(hi:PI X tg iter wi)
  {lp:Addr->It->St->Hp->(St->Hp->Prop)->Prop}
  (hnew:∀(pins:List (Addr×Obj)) (s:Shared) (σ:St) (H:Hp) (Q:Value->Shared->Prop) (E:Value->Shared->Prop),Inv X pins σ H s->(∀s',Inv X pins σ (upd H s.heap.objs.size (o s.heap.objs.size)) s'->(∀b ob,s.heap.get? b=some ob->s'.heap.get? b=some ob)->Q (.ref s.heap.objs.size) s')->wpAny (model X.prog X.w) X.A newAcc Q E s)
  (hlp:∀(pins:List (Addr×Obj)) (ex:List Addr) (s3:Shared) (H3:Hp) (D it:Addr) (fp:List Addr) (tn:Nat->Heap->Prop) (J:It) (σ:St) (s:Shared) (H:Hp) (Q:St->Hp->Prop) (R:Result->Shared->Prop),
   Turn X.prog X.w X.K tg J fp it tn->Inv (cxD X scope cl N' pins ex s3 H3) [] σ H s->tn 0 s.heap->(∀b∈fp,u9 (cxD X scope cl N' pins ex s3 H3) [] H b)->lp D J σ H Q ->
   (∀s' σ' H',Inv (cxD X scope cl N' pins ex s3 H3) [] σ' H' s'->Q σ' H'->R (.ok .next) s') ->
   codeAny (model X.prog X.w) X.A (.compLoop e 0 (.ref it) (.ref D) (compEnvC scope (own scope cl s3.heap.objs.size) s3.heap.objs.size X.env)) R s)
  (hun:∀it D env,X.A.under (.compStart e 0 (.ref it) (.ref D) env)=X.A) (hden:∀it D env,(model X.prog X.w).den (.compStart e 0 (.ref it) (.ref D) env) =(compStart e 0 (.ref it) (.ref D) env).onRaise (fun x=>do noteFrame x env;standAt theWindowsPlace))
  (hev:∀E Q s,wpAny (model X.prog X.w) X.A (comprehension e scope X.env p2 newAcc false (eval iter X.env)) Q E s->wpAny (model X.prog X.w) X.A (eval e X.env) Q E s) :
  PE X e (Em wi o cap lp):=by
 intro pins s σ H Q I h
 refine hev _ _ _ (wpAny_comprehension_free (use:=none) hcl hs S.clos S.kind S.loc (thn (hi pins s σ H _ I h) fun v s1 h1=>thn h1 fun itv s2 h2=>?_))
 obtain⟨it,fp,tn,J,H2,eit,I2,T,st2,f2,R2⟩:=h2
 subst eit
 refine hnew pins s2 σ H2 _ _ I2 fun s3 I3 k3=>?_
 have hD:H2 s2.heap.objs.size=none:=I2.hok.fresh (Nat.le_refl _)
 have fok:∀b∈fp,u9 X pins (upd H2 s2.heap.objs.size (o s2.heap.objs.size)) b/\∃ob,s3.heap.get? b=some ob:=fun b hb=>by
  obtain⟨ob,e,_⟩:=T.obj _ _ st2 b hb
  obtain⟨f0,fr⟩:=f2 b hb
  exact⟨⟨by rw[B5 (Nat.ne_of_lt (Heap.lt_size e))];exact f0,fr⟩,ob,k3 b ob e⟩
 refine Ij fun bb=>?_
 have hk:∀b ob,s3.heap.get? b=some ob->(pushCells (s3.heap.push { cls:=.type "dict",data:=.dict #[] }) scope.names).get? b=some ob:=fun b ob e=>pushCells_keeps _ _ b ob (Heap.get?_push_of_some _ e)
 have hns:(pushCells (s3.heap.push { cls:=.type "dict",data:=.dict #[] }) scope.names).Ns s3.heap.objs.size (fun _=>none):=(Heap.Ns.new s3.heap (.type "dict")).keeps (pushCells_keeps _ _)
 have ok:=cellsFrom_ok scope.names (s3.heap.push { cls:=.type "dict",data:=.dict #[] }) (s3.heap.objs.size+1) [] ⟨fun _ _ hm=>(nomatch hm),List.Pairwise.nil⟩ (by rw[Heap.size_push];exact Nat.le_refl _)
 rw[Heap.size_push]at ok
 generalize pushCells (s3.heap.push { cls:=.type "dict",data:=.dict #[] }) scope.names=h1 at hk hns ok⊢
 have I4:Inv (cxD X scope cl N' pins fp s3 (upd H2 s2.heap.objs.size (o s2.heap.objs.size))) [] (Je cap σ) (upd H2 s2.heap.objs.size (o s2.heap.objs.size)) { s3 with heap:=h1,toks:=s3.toks } :=
  I3.blockD S hc fok hns hk ok
 have st4:tn 0 h1:=T.keep 0 _ _ st2 fun b hb ob e=>hk b ob (k3 b ob e)
 refine W9 (X:=cxD X scope cl N' pins fp s3 (upd H2 s2.heap.objs.size (o s2.heap.objs.size))) (gs:=⟨tg,iter,ifs,0⟩::gs) (e:=e) (d:=0) (tg:=tg) (iter:=iter) (ifs:=ifs) (hun _ _ _) (hden _ _ _) hcl rfl T st4 ?_
 refine hlp pins fp s3 _ s2.heap.objs.size it fp tn J (Je cap σ) _ _ _ _ T I4 st4 (fun b hb=>?_) (R2 _ hD) fun s' σ' H' I' q'=>?_
 ·obtain⟨⟨f0,f1,f2',f3,f4,f5⟩,ob,eo⟩:=fok b hb
  refine⟨f0,Nat.ne_of_lt (Heap.lt_size eo),fun hf=>?_,.inl hb,fun x c e=>?_,fun p hp=>f5 p (by simpa [cxD] using hp)⟩
  ·rcases List.mem_cons.mp (I3.stkSub b hf)with z | z
   ·exact f1 z
   ·exact f2' z
  ·rcases T5 e with a | ⟨_,a⟩
   ·exact Nat.ne_of_gt (Nat.lt_of_lt_of_le (Heap.lt_size eo) (Nat.le_of_succ_le (ok.empty _ _ (PySem.mem_of_lookup a)).2))
   ·exact f4 x c (S.cin.get a)
 ·obtain⟨m,hn,_⟩:=I'.loc
  exact⟨m,hn,fun h' hb=>⟨.ref _,H',I3.unblockD (fun b hb=>(fok b hb).1) I' hb,rfl,q'⟩⟩
theorem Tv{elt:Expr}{te:TE}(S:DScope X scope cl N' cap)(hc:X.calm=true)(hi:PI X tg iter wi)
  (hb:∀(pins:List (Addr×Obj)) (ex:List Addr) (s3:Shared) (H3:Hp),PG (cxD X scope cl N' pins ex s3 H3) tg g/\PTs (cxD X scope cl N' pins ex s3 H3) ifs tc/\PE (cxD X scope cl N' pins ex s3 H3) elt te)
  (hs:∀x,foldedSetIterable iter X.env x=pure x:=by intro _;rfl) :
  PE X (.ListComp elt [⟨tg,iter,ifs,0⟩] scope pos) (Em wi (fun _=>.lst []) cap fun D J σ H Q=>Ib g tc (Cr D te) J σ H Q):=by
 refine Jl (newAcc:=newList []) (p2:=firstIterPos [⟨tg,iter,ifs,0⟩] pos) rfl (fun _=>.lst []) hs S hc hi (fun pins s σ H Q E I h=>?_) (fun pins ex s3 H3 D it fp tn J σ s H Q R T I st hf h hR=>?_) (fun _ _ _=>rfl) (fun _ _ _=>rfl) (fun E Q s h=>h)
 ·refine wpAny_newList ?_
  exact h _ (I.lnew (t':=s.toks) (its:=[]) .nil (Nat.zero_le _)) fun b ob e=>Heap.get?_push_of_some _ e
 ·obtain⟨b1,b2,b3⟩:=hb pins ex s3 H3
  exact V7 (X:=cxD X scope cl N' pins ex s3 H3) rfl rfl hc rfl (W7 elt tg iter ifs scope pos _ _ _) b1 b2 (Ao rfl b3) T I st hf h hR
theorem Wp(caps:∀n,Caps X scope (own scope cl n) N' cap)(cin:ClIn X cl)(clos:closureFor scope X.env=pure cl:=by rfl)(kind:scope.kind = .function:=by rfl)
  (loc:∀y∈scope.names,y.2 = .local->scope.names.lookup y.1=some .local:=by decide +kernel) (has:∀n,((relabel scope X.env).names.all fun y=>!(y.2 == .cell||y.2 == .free)||((own scope cl n).lookup y.1).isSome)=true:=by intro _;rfl):DScope X scope cl N' cap:=⟨kind,loc,clos,cin,has,caps⟩
theorem pgD{pins:List (Addr×Obj)}{ex:List Addr}{s3:Shared}{H3:Hp}{x:Str}{pos:Pos}(i:Nat)(hN:N'.Nodup:=by decide +kernel)(hi:N'[i]?=some x:=by rfl)(hx:Loc (cxD X scope cl N' pins ex s3 H3).env.scope x:=by first | exact Or.inl rfl | exact Or.inr rfl)
  (hf:(cxD X scope cl N' pins ex s3 H3).fn x=true\/(cxD X scope cl N' pins ex s3 H3).env.scope.names.lookup x=some .local:=by first | exact Or.inr rfl | exact Or.inl rfl):PG (cxD X scope cl N' pins ex s3 H3) (.Name x pos) (T4 i):=C4 (X:=cxD X scope cl N' pins ex s3 H3) hN hi hx hf
end
noncomputable def Vz(i:Nat)(f:Addr)(sp:Sp)(E:XK)(t:TA):TE:=fun σ H Q=>σ[i]?=some (some (.ref f))/\Jx sp [] E t σ H Q
section
variable{X:Cx}{CX:CXT}{k:Nat}{f:Addr}{fd:FuncData}{ps:List Str}{sp:Sp}{x:Str}{e:Expr}{es:List Expr}{t:TA}{p pos:Pos}{E:XK}{ds:List Value}
theorem Os{i:Nat}(F:FnOk X.prog X.w X.K X.mg X.base CX k f fd ps sp)(hr:Room k X.A)(hk:PySem.W.keepIn X.K (.ref f)=true)(hb:Binds X.K fd ps [])(hx:U4 CX X E)
  (ha:PA X (e::es) t) (hN:X.N[i]?=some x:=by rfl) (hv:Vis X.env.scope x:=by first | exact Or.inl rfl | exact Or.inr (Or.inl rfl) | exact Or.inr (Or.inr rfl)) (hdb:(x ==("__debug__":Str))=false:=by decide) (hcd:(x ==("__classdict__":Str))=false:=by decide)
  (he:starEach (e::es) X.env =(false,eval e X.env)::starEach es X.env:=by rfl) (hpl:(backTo pos (starEach es X.env)).any (·.1)=false:=by rfl) :
  PE X (.Call (.Name x p) (e::es) [] pos) (Vz i f sp E t):=by
 intro pins s σ H Q I h
 obtain⟨e1,h⟩:=h
 refine wpAny_Call_Name_kw (thn (Pz (i:=i) (pos:=p) hN hv hdb hcd pins s σ H (fun v H'=>v = .ref f/\H'=H) I ⟨_,e1,rfl,rfl⟩) fun u s1 ⟨v,H1,I1,r1,e2,e3⟩=>?_)
 subst e2 e3
 cases r1
 refine PySem.W.callWith_K (h₀:=X.base) I1.ok.mod.kin hk (thn (ha pos pins s1 σ H1 _ I1 h) fun us s2 ⟨vs,H2,I2,r,q⟩=>⟨I2.kIn,?_⟩) he hpl
 exact Gc F hr hb .nil hx I2 r q
end
end L2
namespace TS
open PySem PyProof.Rows
noncomputable def lexB:List (List Nat)->List (List Nat)->Bool
 | _,[]=>false
 | [],_::_=>true
 | x::a,y::b=>decide (x<y)||(decide (x=y)&&lexB a b)
theorem lexB_cons{x y:List Nat}{a b:List (List Nat)}:lexB (x::a) (y::b)=true↔x<y\/(x=y/\lexB a b=true):=by
 rw[lexB];simp
theorem Y7(a:List (List Nat)):lexB a []=false:=by cases a<;>rfl
theorem p0:∀a,lexB a a=false
 | []=>rfl
 | x::a=>by
  rw[Bool.eq_false_iff]
  intro z
  rcases lexB_cons.mp z with z | ⟨_,z⟩
  ·exact List.lt_irrefl _ z
  ·rw[p0 a]at z;cases z
theorem z5:∀a b c,lexB a b=true->lexB b c=true->lexB a c=true
 | _,[],_,h,_=>by rw[Y7]at h;cases h
 | _,_::_,[],_,h=>by rw[Y7]at h;cases h
 | [],_::_,_::_,_,_=>rfl
 | x::a,y::b,z::c,h1,h2=>by
  rw[lexB_cons]at *
  rcases h1 with h1 | ⟨h1,h1'⟩
  ·rcases h2 with h2 | ⟨h2,_⟩
   ·exact .inl (List.lt_trans h1 h2)
   ·exact .inl (h2▸h1)
  ·rcases h2 with h2 | ⟨h2,h2'⟩
   ·exact .inl (h1▸h2)
   ·exact .inr ⟨h1.trans h2,z5 a b c h1' h2'⟩
theorem Hk:∀a b c,lexB a c=true->lexB a b=true\/lexB b c=true
 | _,_,[],h=>by rw[Y7]at h;cases h
 | [],[],_::_,_=>.inr rfl
 | _::_,[],_::_,_=>.inr rfl
 | [],_::_,_::_,_=>.inl rfl
 | x::a,y::b,z::c,h=>by
  rw[lexB_cons]at h
  simp only[lexB_cons]
  rcases tri x y with q | q | q
  ·exact .inl (.inl q)
  ·rcases h with h | ⟨h,h'⟩
   ·exact .inr (.inl (q▸h))
   ·rcases Hk a b c h' with r | r
    ·exact .inl (.inr ⟨q,r⟩)
    ·exact .inr (.inr ⟨q▸h,r⟩)
  ·rcases h with h | ⟨h,_⟩
   ·exact .inr (.inl (List.lt_trans q h))
   ·exact .inr (.inl (h▸q))
theorem lexB_total:∀a b,lexB a b=false->lexB b a=false->a=b
 | [],[],_,_=>rfl
 | [],_::_,h,_=>by cases h
 | _::_,[],_,h=>by cases h
 | x::a,y::b,h1,h2=>by
  rw[Bool.eq_false_iff]at h1 h2
  rcases tri x y with q | q | q
  ·exact absurd (lexB_cons.mpr (.inl q)) h1
  ·rw[q,lexB_total a b (Bool.eq_false_iff.mpr fun z=>h1 (lexB_cons.mpr (.inr ⟨q,z⟩))) (Bool.eq_false_iff.mpr fun z=>h2 (lexB_cons.mpr (.inr ⟨q.symm,z⟩)))]
  ·exact absurd (lexB_cons.mpr (.inl q)) h2
noncomputable def lexKey(tab:List (Addr×List (List Nat))):Value->Option (List (List Nat))
 | .ref a=>(tab.find? fun q=>decide (q.1=a)).map fun q=>q.2
 | _=>none
@[reducible] noncomputable def lexKind(tab:List (Addr×List (List Nat))):PyProof.Rows.KeyKind where
 α:=List (List Nat)
 blt:=lexB
 irrefl:=p0
 trans:=z5
 negTrans:=Hk
 total:=lexB_total
 keyOf:=lexKey tab
 dflt:=[]
theorem lexKey_mem{tab:List (Addr×List (List Nat))}{v:Value}{k:List (List Nat)}(h:lexKey tab v=some k):∃q∈tab,v = .ref q.1/\q.2=k:=by
 match v,h with
 | .ref a,h =>
  obtain⟨q,e,hk⟩:=Option.map_eq_some_iff.mp h
  exact⟨q,List.mem_of_find?_eq_some e,by rw[of_decide_eq_true (List.find?_some (p:=fun q:Addr×List (List Nat)=>decide (q.1=a)) e)],hk⟩
theorem lexKey_some{tab:List (Addr×List (List Nat))}{q:Addr×List (List Nat)}(h:q∈tab):∃k,lexKey tab (.ref q.1)=some k:=by
 show ∃k,(tab.find? fun r=>decide (r.1=q.1)).map (fun r=>r.2)=some k
 cases e:tab.find? fun r=>decide (r.1=q.1)with
 | none=>exact absurd (decide_eq_true rfl) (List.find?_eq_none.mp e _ h)
 | some r=>exact⟨r.2,rfl⟩
open PySem.SeqAt PySem.MeetsSeq PySem.MeetsSeq3
open AutoSeq1 (wpAny_loadPart')
noncomputable def Its(items:Array Value)(as:List Str):Prop:=items.size=as.length/\∀(j:Nat) (x:Str),as[j]?=some x->∃t,items[j]?=some (.str x t)
noncomputable abbrev kyS(as:List Str):List (List Nat):=as.map fun x=>x.cps.toList
theorem Fd(l b:Addr)(items items2:Array Value)(n n2:Nat)(as bs:List Str)(ha:Its items as)(hb:Its items2 bs)(k:Nat) :
  ∀i:Nat,as.length-i=k->i<=as.length->i<=bs.length->Meets (Builtin.«list.__eq__.loop» ⟨[.ref l,.ref b,rawInt i,rawInt 0],[]⟩)
   (fun A R s=>s.heap.get? l=some (seqObj "list" items n)/\s.heap.get? b=some (seqObj "list" items2 n2)/\R (.ok (.ret (.bool (lexB (kyS (as.drop i)) (kyS (bs.drop i)))))) s):=by
 induction k with
 | zero =>
  intro i hk h1 h2 prog w A R s h
  obtain⟨hp,g,d,tk,os⟩:=s;obtain⟨hl,hbb,h⟩:=h
  wp_walk using wpAny_loadPart' hl,wpAny_loadPart' hbb
  have hi1:items[((i:Nat):Int).toNat]?=none:=by have:=ha.1;simp;omega
  rw[hi1]
  have e:lexB (kyS (as.drop i)) (kyS (bs.drop i))=decide (items.size<items2.size):=by
   rw[ha.1,hb.1,List.drop_of_length_le (by omega)]
   by_cases c:i<bs.length
   ·rw[decide_eq_true (by omega),List.drop_eq_getElem_cons c]
    rfl
   ·rw[decide_eq_false (by omega),List.drop_of_length_le (by omega)]
    rfl
  rw[e]at h
  wp_walk using wpAny_loadPart' hl,wpAny_loadPart' hbb
  exact h
 | succ k ih =>
  intro i hk h1 h2 prog w A R s h
  obtain⟨hp,g,d,tk,os⟩:=s;obtain⟨hl,hbb,h⟩:=h
  wp_walk using wpAny_loadPart' hl,wpAny_loadPart' hbb
  have hlt:i<as.length:=by omega
  obtain⟨t,et⟩:=ha.2 i as[i] (List.getElem?_eq_getElem hlt)
  have hi1:items[((i:Nat):Int).toNat]?=some (.str as[i] t):=by simpa using et
  by_cases c:i<bs.length
  ·obtain⟨u,eu⟩:=hb.2 i bs[i] (List.getElem?_eq_getElem c)
   have hi2:items2[((i:Nat):Int).toNat]?=some (.str bs[i] u):=by simpa using eu
   have hc:((i:Int)+1) =((i+1:Nat):Int):=by push_cast;rfl
   rw[List.drop_eq_getElem_cons hlt,List.drop_eq_getElem_cons c]at h
   have h:R (.ok (.ret (.bool (decide (as[i].cps.toList<bs[i].cps.toList)||(decide (as[i].cps.toList=bs[i].cps.toList)&&lexB (kyS (as.drop (i+1))) (kyS (bs.drop (i+1)))))))) _:=h
   rw[hi1,hi2]
   refine wpAny_bind (wpAny_eqBool_str ?_)
   by_cases e:as[i]=bs[i]
   ·rw[decide_eq_true e]
    rw[e,decide_eq_false (List.lt_irrefl _),decide_eq_true rfl,Bool.false_or,Bool.true_and]at h
    wp_walk
    rw[hc]
    exact⟨plainId_quiet plain_eq_loop _,codeAny_builtin entry_eq_loop (by
     rw[Around.under_plainId plain_eq_loop _]
     exact ih (i+1) (by omega) (by omega) (by omega) prog w A R _ ⟨hl,hbb,h⟩)⟩
   ·rw[decide_eq_false e]
    have ne:as[i].cps.toList≠bs[i].cps.toList:=fun z=>e (by
     have z':=Array.toList_inj.mp z
     cases hx:as[i];cases hy:bs[i]
     rw[hx,hy]at z'
     exact congrArg Str.mk z')
    rw[decide_eq_false ne,Bool.false_and,Bool.or_false]at h
    wp_walk using wpAny_loadPart' hl,wpAny_loadPart' hbb
    rw[hi1,hi2]
    show wpAny _ _ (richCompare CmpOp.Lt (.str as[i] t) (.str bs[i] u) >>= fun r=>ret r) _ _ _
    refine wpAny_bind (wpAny_richCompare_same (typeIs_str _ _ _) (typeIs_str _ _ _) slot_str_lt (call_str_lt ⟨(by intro z;cases z),wpAny_pure h⟩) rfl)
  ·have hi2:items2[((i:Nat):Int).toNat]?=none:=by have:=hb.1;simp;omega
   rw[hi1,hi2]
   have e:lexB (kyS (as.drop i)) (kyS (bs.drop i))=decide (items.size<items2.size):=by
    rw[ha.1,hb.1,List.drop_of_length_le (l:=bs) (by omega),decide_eq_false (by omega)]
    exact Y7 _
   rw[e]at h
   wp_walk using wpAny_loadPart' hl,wpAny_loadPart' hbb
   exact h
theorem list_lt_gen(l b:Addr)(items items2:Array Value)(n n2:Nat)(as bs:List Str)(ha:Its items as)(hb:Its items2 bs) :
  Meets (Builtin.«list.__lt__» ⟨[.ref l,.ref b],[]⟩)
   (fun A R s=>s.heap.get? l=some (seqObj "list" items n)/\s.heap.get? b=some (seqObj "list" items2 n2)/\R (.ok (.ret (.bool (lexB (kyS as) (kyS bs))))) s):=by
 intro prog w A R s h
 obtain⟨hp,g,d,tk,os⟩:=s;obtain⟨hl,hbb,h⟩:=h
 have f3:=AutoSeq1.sub_list_list
 wp_walk using wpAny_loadPart' hl,wpAny_loadPart' hbb
 exact⟨plainId_quiet plain_eq_loop _,codeAny_builtin entry_eq_loop (by
  rw[Around.under_plainId plain_eq_loop _]
  exact Fd l b items items2 n n2 as bs ha hb _ 0 rfl (Nat.zero_le _) (Nat.zero_le _) prog w A R _ ⟨hl,hbb,h⟩)⟩
end TS
namespace L2
open PySem PySem.Spec PyProof.Rows
theorem Qj{l:List Str}{us:List Value}(r:Vals (l.map V.str) us):TS.Its us.toArray l:=by
 induction l generalizing us with
 | nil =>
  cases r
  exact⟨rfl,fun j x h=>by rw[List.getElem?_nil]at h;cases h⟩
 | cons y l ih =>
  cases r with
  | cons r1 r2 =>
   obtain⟨t0,rfl⟩:=r1
   obtain⟨h1,h2⟩:=ih r2
   refine⟨by simp only[List.size_toArray,List.length_cons]at h1⊢;rw[h1],fun j x h=>?_⟩
   cases j with
   | zero =>
    rw[List.getElem?_cons_zero]at h
    cases h
    exact⟨t0,rfl⟩
   | succ j =>
    rw[List.getElem?_cons_succ]at h
    obtain⟨t,e⟩:=h2 j x h
    exact⟨t,by simpa using e⟩
noncomputable def Th(ts:List (Addr×List Str)):List (Addr×List (List Nat)):=ts.map fun q=>(q.1,TS.kyS q.2)
theorem Iq{P:Program}{w:World}{s:Shared}{a:Addr}{ts:List (Addr×List Str)}{h0:Heap}(hv:∀q∈ts,∃us,Vals (q.2.map V.str) us/\LAt h0 q.1 us)(hk:∀b o,h0.get? b=some o->b≠a/\s.heap.get? b=some o) :
  TS.Keys2 P w a s (TS.lexKind (Th ts)) oneType' (ts.map fun q=>Value.ref q.1):=by
 refine⟨fun A s' hu hE=>⟨fun x y k l Q E hx hy q=>?_⟩,fun v hvm=>?_,fun h2 A E s' Q hE q=>?_⟩
 ·obtain⟨_,m1,rfl,rfl⟩:=TS.lexKey_mem hx
  obtain⟨_,m2,rfl,rfl⟩:=TS.lexKey_mem hy
  obtain⟨x,mx,rfl⟩:=List.mem_map.mp m1
  obtain⟨y,my,rfl⟩:=List.mem_map.mp m2
  obtain⟨us,v1,n1,e1⟩:=hv x mx
  obtain⟨vs,v2,n2,e2⟩:=hv y my
  have e1':=hE _ _ (hk _ _ e1).1 (hk _ _ e1).2
  have e2':=hE _ _ (hk _ _ e2).1 (hk _ _ e2).2
  rw[keyLt'_oneType]
  exact TS.oneLt_lists (by omega) e1' e2' (TS.list_lt_gen _ _ _ _ _ _ _ _ (Qj v1) (Qj v2)) q
 ·obtain⟨q,hq,rfl⟩:=List.mem_map.mp hvm
  exact TS.lexKey_some (q:=(q.1,TS.kyS q.2)) (List.mem_map.mpr ⟨q,hq,rfl⟩)
 ·refine PySem.W.kas_kind (T:=.type "list") h2 (fun v hvm=>?_) (by decide) (by decide) q
  obtain⟨q,hq,rfl⟩:=List.mem_map.mp hvm
  obtain⟨us,v1,n1,e1⟩:=hv q hq
  exact(PySem.W.Looks.ld (hE _ _ (hk _ _ e1).1 (hk _ _ e1).2)).andThen .now
section
variable{X:Cx}
noncomputable def Pm(K:PySem.W.Frag):List V->Hp->VK->Prop:=fun xs H Q=>∃(p:Addr) (ts:List (Addr×List Str)),xs = [.ref p]/\SqL K H p (ts.map fun q=>V.ref q.1)/\(∀q∈ts,H q.1=some (.lst (q.2.map V.str))) /\
  ∀(l:Addr) (ts':List (Addr×List Str)),H l=none->ts'.Perm ts->ts'.Pairwise (fun a b=>TS.lexB (TS.kyS b.2) (TS.kyS a.2)=false)->Q (.ref l) (upd H l (.lst (ts'.map fun q=>V.ref q.1)))
theorem Dv(hu:X.A.units+64<cLine):E7 X (.builtin "sorted") (Pm X.K):=by
 intro pins s σ H xs us Q I r h
 obtain⟨p,ts,rfl,hq,hpi,q⟩:=h
 obtain⟨u,rfl,ru⟩:=V1 r
 cases ru
 obtain⟨its,rv,pl,hz⟩:=I.list hq
 have ei:=Ut rv
 have hl:=rv.length
 refine TS.sorted_gen2 (by omega) (collect_list (vs:=its) pl.isList ?_ (by omega))
 have hsz:((s.heap.push (seqObj "list" #[] 0)).update s.heap.objs.size (Obj.mapSeq (· ++ its.toArray))).objs.size=s.heap.objs.size+1:=by rw[Heap.size_update,size_push']
 have hk1:∀b o,s.heap.get? b=some o->((s.heap.push (seqObj "list" #[] 0)).update s.heap.objs.size (Obj.mapSeq (· ++ its.toArray))).get? b=some o:=fun b o eb=>by
  rw[Heap.get?_update_ne _ _ _ _ (Nat.ne_of_lt (Heap.lt_size eb))]
  exact Heap.get?_push_of_some _ eb
 have hpa:∀q∈ts,∃us,Vals (q.2.map V.str) us/\LAt s.heap q.1 us:=fun q hq=>by
  obtain⟨z,its,n,rv,e⟩:=I.hok _ _ (hpi q hq)
  exact⟨its,rv,n,e⟩
 refine⟨rfl,by omega,TS.lexKind (Th ts),oneType',fun s2 hE=>?_,fun out h' e ho k hg=>?_⟩
 ·rw[ei]
  refine Iq hpa fun b o eb=>?_
  rw[<-ei]
  have hne:b≠((s.heap.push (seqObj "list" #[] 0)).update s.heap.objs.size (Obj.mapSeq (· ++ its.toArray))).objs.size:=by
   rw[hsz]
   exact Nat.ne_of_lt (Nat.lt_succ_of_lt (Heap.lt_size eb))
  exact⟨hne,hE b o hne (hk1 b o eb)⟩
 ·obtain⟨hp,hs⟩:=ho
  rw[ei]at hp
  obtain⟨ts',h1,h2⟩:=X7 (fun q:Addr×List Str=>Value.ref q.1) hp ts rfl
  have ky:∀q∈ts,TS.lexKey (Th ts) (.ref q.1)=some (TS.kyS q.2):=fun q hq=>by
   obtain⟨k,e⟩:=TS.lexKey_some (tab:=Th ts) (q:=(q.1,TS.kyS q.2)) (List.mem_map.mpr ⟨q,hq,rfl⟩)
   obtain⟨_,m,e1,e2⟩:=TS.lexKey_mem e
   obtain⟨r,mr,rfl⟩:=List.mem_map.mp m
   have e1:q.1=r.1:=Value.ref.inj e1
   have e3:=(hpi q hq).symm.trans ((congrArg H e1).trans (hpi r mr))
   have e4:q.2=r.2:=Hm (HO.lst.inj (Option.some.inj e3))
   rw[e,<-e2,e4]
  have hpw:ts'.Pairwise (fun a b=>TS.lexB (TS.kyS b.2) (TS.kyS a.2)=false):=by
   rw[h2,List.pairwise_map]at hs
   refine(List.Pairwise.and_mem.mp hs).imp fun{a b} ⟨ha,hb,z⟩=>?_
   have z':TS.lexB ((TS.lexKey (Th ts) (.ref b.1)).getD []) ((TS.lexKey (Th ts) (.ref a.1)).getD [])=false:=z
   rw[ky a (h1.mem_iff.mp ha),ky b (h1.mem_iff.mp hb)]at z'
   exact z'
  have hn:H (s.heap.objs.size+1)=none:=I.hok.fresh (Nat.le_succ _)
  have hg':h'.get? (s.heap.objs.size+1)=some (seqObj "list" out e):=by rw[<-hsz];exact hg
  refine⟨.ref (s.heap.objs.size+1),upd H (s.heap.objs.size+1) (.lst (ts'.map fun q=>V.ref q.1)),?_,by show Value.ref _=_;rw[<-hsz],q _ _ hn h1 hpw⟩
  refine I.laid (t':=s.toks) (fun b o eb=>k b o (hk1 b o eb)) (Nat.le_succ _) ⟨?_,out.toList,e,by rw[h2];exact Tz ts',by simpa using hg'⟩
  rw[List.length_map,h1.length_eq]
  rw[List.length_map]at hz
  exact hz
theorem Ht(K:PySem.W.Frag)(hu:X.A.units+64<cLine)(hK:X.K=K:=by rfl):E7 X (.builtin "sorted") (Pm K):=by subst hK;exact Dv hu
end
noncomputable def Gf(v d:Addr):HO:=.ext fun h=>h.IsValuesView v d
noncomputable def Itv(d:Addr)(o:Obj)(kvs:List (Key×V)):It :=
 ⟨fun i H=>H d=some (.frz o (.dK kvs))/\i<kvs.length,fun i H x H'=>H'=H/\∃k,kvs[i]?=some (k,x),fun i H=>H d=some (.frz o (.dK kvs))/\kvs.length<=i⟩
theorem KV.atV{kvs:List (Key×V)}{vs:List (Key×Value)}(h:KV kvs vs):∀{i:Nat} {k:Key} {v:V},kvs[i]?=some (k,v)->∃u,vs[i]?=some (k,u)/\RelV v u:=by
 induction h with
 | nil=>intro i k v e;rw[List.getElem?_nil]at e;cases e
 | cons r _ ih =>
  intro i k v e
  cases i with
  | zero =>
   rw[List.getElem?_cons_zero]at e⊢
   cases e
   obtain⟨a,b⟩:=r
   exact⟨_,by rw[show k=_ from a],b⟩
  | succ i=>exact ih e
section
variable{X:Cx}{tg:Expr}
noncomputable def Xa(td:TE):TE:=fun σ H Q=>td σ H fun x H1=>∃a kvs,x = .ref a/\H1 a=some (.dK kvs)/\∀v,H1 v=none->Q (.ref v) (upd H1 v (Gf v a))
theorem Ji{o:Expr}{apos cpos:Pos}{td:TE}(ho:PE X o td)(hbase:attributeBase o "values" X.env (eval o X.env)=eval o X.env:=by rfl)(hline:(apos.endLine == cpos.line)=true:=by rfl):PE X (.Call (.Attribute o "values" apos) [] [] cpos) (Xa td):=by
 intro pins s σ H Q I h
 refine wpAny_Call_method0_late hbase hline (thn (ho pins s σ H _ I h) fun v s1 ⟨x,H1,I1,r1,a,kvs,ex,ea,q1⟩=>?_)
 subst ex
 obtain rfl:v=Value.ref a:=r1
 obtain⟨z,hd,vs,rel,dd⟩:=Uz I1.hok ea
 obtain⟨t1,t2,_⟩:=Vo I1 (.inl ⟨kvs,.inl ea⟩)
 refine⟨"dict", "dict.values",PySem.F.plainAttrs_dict,PySem.F.slot_dict_values,PySem.F.type_dict_values,t1,t2,Calls.callWith_builtin rfl (PySem.evalArgs_none ?_)⟩
 refine call_meetsIn PySem.F.slot_dict_values dd.typeIs PySem.F.entry_dict_values (PySem.F.args_dict_values_1 _) (meets_dict_values (C0 X.prog X.w) a hd) ⟨⟨vs,dd⟩,?_⟩
 exact⟨.ref s1.heap.objs.size,upd H1 _ (Gf _ a),I1.laid (t':=s1.toks) (fun b o eb=>Heap.get?_push_of_some _ eb) (Nat.le_refl _) ⟨⟨_,Heap.get?_push_size _ rfl,rfl,rfl⟩,⟨_,Heap.get?_push_size _ rfl⟩,fun h1 h2 ⟨o,e,r⟩ k=>⟨o,k o e,r⟩⟩,rfl,q1 _ I1.fresh⟩
theorem Kn{P:Program}{w:World}{K:PySem.W.Frag}{d it:Addr}{o:Obj}{kvs:List (Key×V)}{es:Array DictEntry}{ep:Nat}(hd:o.data = .dict es ep):Turn P w K tg (Itv d o kvs) [it] it (fun i h=>h.IsValIter it d i kvs.length ep) where
 mem:=by simp
 obj:=fun i h st b hb=>by
  have e:b=it:=by simpa using hb
  subst e
  obtain⟨o,e,c,d⟩:=st
  exact⟨o,e,fun v z=>by rw[d]at z;cases z⟩
 keep:=fun i h h' st k=>by
  obtain⟨o,e,r⟩:=st
  exact⟨o,k it (by simp) o e,r⟩
 item:=by
  intro X hP hw hK hc i pins s σ H E I hf st hg
  subst hP hw hK
  obtain⟨hq,hi⟩:=hg
  obtain⟨f0,f1,f2,f3,f4,f5⟩:=hf it (by simp)
  obtain⟨ho,hz,hS,vs,r,ob,es',ep',e1,c1,d1,m1⟩:=(show ObjOk X.prog X.w H s.heap d (.frz o (.dK kvs))from I.hok d _ hq)
  rw[ho]at e1
  cases e1
  rw[hd]at d1
  cases d1
  have hx:kvs[i]?=some (kvs[i].1,kvs[i].2):=List.getElem?_eq_getElem hi
  obtain⟨u,hu,ru⟩:=r.atV hx
  have hl:kvs.length=vs.length:=r.length
  rw[hl]at st
  refine wpAny_pyNext_values_item (knd:=C0 X.prog X.w) st ⟨o,es,ho,c1,hd,m1⟩ hu fun h' st' sb=>?_
  have I1:Inv X pins σ H { s with heap:=h' }:=I.turned (t':=s.toks) (fun b o hb e=>(sb.2 b hb).trans e) f0 f1 f3 f4 f5
  obtain⟨oi,ei,ci,di⟩:=id st'
  rw[<-hl]at st'
  exact⟨u,rfl,Me (s:={ s with heap:=h' }) ei ci di (by decide) ⟨kvs[i].2,H,I1,ru,⟨rfl,_,hx⟩,st',fun b hb=>(hf b hb).1⟩⟩
 done:=by
  intro X hP hw hK hc i pins s σ H E I hf st hg
  subst hP hw hK
  obtain⟨hq,hi⟩:=hg
  obtain⟨f0,f1,f2,f3,f4,f5⟩:=hf it (by simp)
  obtain⟨ho,hz,hS,vs,r,ob,es',ep',e1,c1,d1,m1⟩:=(show ObjOk X.prog X.w H s.heap d (.frz o (.dK kvs))from I.hok d _ hq)
  rw[ho]at e1
  cases e1
  rw[hd]at d1
  cases d1
  have hl:kvs.length=vs.length:=r.length
  rw[hl]at st hi
  exact wpAny_pyNext_values_end (knd:=C0 X.prog X.w) (I.ok.hd hc) st ⟨o,es,ho,c1,hd,m1⟩ (List.getElem?_eq_none hi) fun h' eb=>⟨rfl,I.turned (t':=s.toks) (fun b o hb e=>eb b o hb e) f0 f1 f3 f4 f5⟩
 self:=fun _ _ _ _ _ st h=>wpAny_pyIter_valiter st h
noncomputable def Zb(tl:TE):TI:=fun σ H R=>tl σ H fun x H1=>∃v d kvs,x = .ref v/\H1 v=some (Gf v d)/\H1 d=some (.dK kvs)/\∀o,R (Itv d o kvs) (upd H1 d (.frz o (.dK kvs)))
theorem Up{l:Expr}{tl:TE}(hl:PE X l tl):PI X tg l (Zb tl):=by
 intro pins s σ H R I h
 refine thn (hl pins s σ H _ I h) fun v s1 ⟨x,H1,I1,r1,q1⟩=>?_
 obtain⟨vw,d,kvs,e,hv,hq,q⟩:=q1
 subst e
 cases r1
 obtain⟨hview,_⟩:=(show ObjOk X.prog X.w H1 s1.heap vw (Gf vw d)from I1.hok vw _ hv)
 obtain⟨hz,hS,vs,r,o,es,ep,ho,c1,d1,m1⟩:=(show ObjOk X.prog X.w H1 s1.heap d (.dK kvs)from I1.hok d _ hq)
 have I2:Inv X pins σ (upd H1 d (.frz o (.dK kvs))) { s1 with heap:=s1.heap,toks:=s1.toks }:=I1.write (t':=s1.toks) (by rw[hq];trivial) (.inl rfl) (fun b u _ e=>e) ⟨_,ho⟩ ⟨ho,hz,hS,vs,r,o,es,ep,ho,c1,d1,m1⟩
 have hl:kvs.length=vs.length:=r.length
 refine wpAny_pyIter_values (knd:=C0 X.prog X.w) (ep:=ep) hview ⟨o,es,ho,c1,d1,m1⟩ ?_
 refine⟨s1.heap.objs.size,[s1.heap.objs.size],_,_,upd H1 d (.frz o (.dK kvs)),rfl,I2.kept (t':=s1.toks) fun b o e=>Heap.get?_push_of_some _ e,Kn d1,?_,fun b hb=>?_,q o⟩
 ·rw[hl]
  exact⟨_,Heap.get?_push_size _ rfl,rfl,rfl⟩
 have e:b=s1.heap.objs.size:=by simpa using hb
 subst e
 exact I2.fpOk (Nat.le_refl _) (I2.hok.fresh (Nat.le_refl _))
theorem q9(ns:List Int):∀{n:Nat},n<=ns.length->preSum (fun i=>ns.getD i 0) n =(ns.take n).sum
 | 0,_=>rfl
 | n+1,h=>by
  have e:ns[n]?=some ns[n]:=List.getElem?_eq_getElem (by omega)
  show preSum (fun i=>ns.getD i 0) n+ns.getD n 0=_
  rw[q9 ns (by omega),List.take_succ,List.sum_append,List.getD_eq_getElem?_getD,e]
  simp
noncomputable def Xi:List V->Hp->VK->Prop:=fun xs H Q=>∃(v d:Addr) (kvs:List (Key×V)) (ns:List Int),xs = [.ref v]/\H v=some (Gf v d)/\H d=some (.dK kvs)/\(kvs.map fun q=>q.2)=ns.map V.int/\Q (.int ns.sum) H
theorem Ss(hc:X.calm=true:=by rfl):E7 X (.builtin "sum") Xi:=by
 intro pins s σ H xs us Q I r h
 obtain⟨v,d,kvs,ns,rfl,hv,hq,hn,q⟩:=h
 obtain⟨u,rfl,ru⟩:=V1 r
 cases ru
 obtain⟨hview,_⟩:=(show ObjOk X.prog X.w H s.heap v (Gf v d)from I.hok v _ hv)
 obtain⟨hz,hS,vs,r,o,es,ep,ho,c1,d1,m1⟩:=(show ObjOk X.prog X.w H s.heap d (.dK kvs)from I.hok d _ hq)
 have hl:kvs.length=vs.length:=r.length
 have hln:kvs.length=ns.length:=by have:=congrArg List.length hn;rw[List.length_map,List.length_map]at this;exact this
 refine call_sum_walkG (wpAny_pyIter_values (knd:=C0 X.prog X.w) (ep:=ep) hview ⟨o,es,ho,c1,d1,m1⟩ ?_)
 have hdI:d≠s.heap.objs.size:=Nat.ne_of_lt (Heap.lt_size ho)
 refine⟨s.heap.objs.size,_,_,vs.length,_,_,fun i=>ns.getD i 0,rfl,Walks.dictValues (knd:=C0 X.prog X.w) (by simp only[Around.in1_handled];exact I.ok.hd hc) s.heap.objs.size d hdI vs ep,⟨⟨_,Heap.get?_push_size _ rfl,rfl,rfl⟩,o,es,Heap.get?_push_of_some _ ho,c1,d1,m1⟩,fun b hb=>?_,fun i u ⟨k,hk⟩=>?_,fun h' tk t' kp=>⟨.int ns.sum,H,I.kept (t':=tk) fun b o e=>kp b o (by simpa using Nat.ne_of_lt (Heap.lt_size e)) (Heap.get?_push_of_some _ e),⟨t',?_⟩,q⟩⟩
 ·rw[Heap.size_push]
  rcases List.mem_cons.mp hb with rfl | hb
  ·exact Nat.lt_succ_self _
  ·rw[List.mem_singleton.mp hb];exact Nat.lt_succ_of_lt (Heap.lt_size ho)
 ·have hi:i<vs.length:=(List.getElem?_eq_some_iff.mp hk).1
  have hx:kvs[i]?=some (kvs[i].1,kvs[i].2):=List.getElem?_eq_getElem (by omega)
  obtain⟨u',hu,ru⟩:=r.atV hx
  rw[hk]at hu
  cases hu
  have e:=congrArg (fun l=>l[i]?) hn
  rw[List.getElem?_map,List.getElem?_map,hx,List.getElem?_eq_getElem (by omega:i<ns.length)]at e
  have e:kvs[i].2=V.int ns[i]:=Option.some.inj e
  rw[e]at ru
  obtain⟨t,rfl⟩:=ru
  exact⟨t,by show Value.int ns[i] t=Value.int (ns.getD i 0) t;rw[List.getD_eq_getElem?_getD,List.getElem?_eq_getElem (by omega:i<ns.length)];rfl⟩
 ·have:preSum (fun i=>ns.getD i 0) vs.length=ns.sum:=by
   rw[q9 _ (by omega),List.take_of_length_le (by omega)]
  rw[this]
end
section
variable{X:Cx}{i:Nat}{x:Str}{e:Expr}{pos pos':Pos}
theorem Rl{t:XK->TE}(hN:X.N.Nodup)(hi:X.N[i]?=some x)(hx:Loc X.env.scope x)(he:PEx X e t)(hs:swapsWith e (some (.Name x pos')) pos.line X.env=pure false:=by rfl)(hf:X.fn x=true\/X.env.scope.names.lookup x=some .local:=by first | exact .inl rfl | exact .inr rfl | assumption) :
  PSx X [.Assign [.Name x pos'] e pos] (fun E=>Wa (t E) (T4 i)):=by
 intro pins s σ H D E I h
 refine wpAny_execs_cons (wpAny_Assign_Name (wpAny_mono (he pins s σ H _ E I h) (fun v s1 ⟨y,H1,I1,r1,q1⟩=>?_) fun _ _ z=>z) hs)
 exact Q9 I1 hN hi hx r1 (fun s2 I2=>wpAny_execs_nil ⟨_,H1,I2,q1⟩) hf
end
noncomputable def Xq(K:PySem.W.Frag)(S:Addr)(t:XK->TS)(th:TS):TS:=fun D σ H =>
 t (fun Cv d H'=>∃C bm,Cv = .ref C/\XC K C bm/\(Value.ref C::bm).contains (.ref S)=true/\∀x,H' x=some (XO x C d)->th D σ H') D σ H
theorem Sl{X:Cx}{S:Addr}{bmS:List Value}{c:Str}{cp hp pos:Pos}{b₀:Stmt}{tb body:List Stmt}{t:XK->TS}{th:TS}(nox:∀e s,¬X.xe e s)(st:X.stack=X.env::X.outer)(fr:X.env.frame=some X.env.locals)
  (hg:Gl X c) (hm:X.mg c=some (.ref S)) (cS:XC X.K S bmS) (he:PSx X tb t) (hh:∀ev,PSs (Xm X ev) (b₀::body) th) (hdb:(c ==("__debug__":Str))=false:=by decide) :
  PS X (.Try tb [.ExceptHandler (some (.Name c cp)) none (b₀::body) hp] [] [] pos) (Xq X.K S t th):=by
 intro pins s σ H D I h
 refine wpAny_Try_except ?_
 refine wpAny_mono (he pins s σ H _ _ I h) (fun fl s1 z=>?_) fun ev s' z=>?_
 ·cases fl with
  | next=>exact wpAny_execs_nil z
  | brk=>exact z
  | cont=>exact z
  | ret u=>exact z
 obtain⟨s1,H1,I1,x,C,d,H',rfl,os,bare,un,hok,hx,nx,tb,C',bm,ec,cC,hcon,q⟩:=z
 cases ec
 have I2:Inv X pins σ H' s':=I1.call' os un hok bare (fun b z=>absurd z (by simp))
 have r:RX X.prog X.w X.base X.stack X.env X.outer H1 s1 x C d H' s':=⟨os,bare,un,hok,Nat.le_trans I1.ok.bsz I1.sz,I2.bs,by have:=I2.stack;rw[st]at this;exact this,by have:=I2.stkFree;rw[st]at this;exact this,⟨_,fr⟩,fun b o _ hb=>by rw[st]at hb;exact hb,fun b hb=>by rw[st]at hb;exact hb,hx,nx,tb.fl⟩
 have hfr:X.A.frames=some (X.env::X.outer):=by rw[I.ok.frames,st]
 refine r.note hfr fun h' r' t'=>r'.flight fun h2 r2 _=>?_
 have I3:Inv X pins σ H' { s' with heap:=h2 }:=I1.call' r2.os r2.un r2.hok r2.bare (fun b z=>absurd z (by simp))
 refine wpAny_handleBy_cons (codeAny_handlers_test ?_) (by intro q;cases q)
 refine V9 (I3.mark (.ref x)) hg hm ?_ hdb
 obtain⟨nm,q1,N,bs,hdct,sn,sub,ab,col,dd,k0,k1,k2,k3,k5,hobj⟩:=cC.obj
 obtain⟨nm',q1',N',bs',hdct',sn',sub',ab',col',dd',j0,j1,j2,j3,j5,hobj'⟩:=cS.obj
 obtain⟨ox,vx,ex,hcx,_⟩:∃o vs,h2.get? x=some o/\o.cls = .ref C/\o.dict=d/\o.data = .fields vs:=(r2.hok x _ r2.hx).1
 refine Yr (I3.kIn _ _ hobj) (I3.kIn _ _ hobj') ex hcx (cS.base I3.kIn) hcon ?_
 refine codeAny_handlers_suite (r2.flight fun h4 r4 _=>?_)
 have I4:Inv X pins σ H' { s' with heap:=h4 }:=I1.call' r4.os r4.un r4.hok r4.bare (fun b z=>absurd z (by simp))
 refine wpAny_mono (hh (.ref x) pins _ _ H' D (I4.mark _) (q x hx)) (fun f s6 z=>?_) fun _ _ z=>(nox _ _ z).elim
 cases f with
 | next =>
  obtain⟨σ',H6,I6,q6⟩:=z
  exact⟨_,_,I6.unmark I.ok,q6⟩
 | brk =>
  obtain⟨σ',H6,I6,q6⟩:=z
  exact⟨_,_,I6.unmark I.ok,q6⟩
 | cont =>
  obtain⟨σ',H6,I6,q6⟩:=z
  exact⟨_,_,I6.unmark I.ok,q6⟩
 | ret u =>
  obtain⟨v,σ',H6,I6,r6,q6⟩:=z
  exact⟨v,_,_,I6.unmark I.ok,r6,q6⟩
section
variable{X:Cx}
theorem Wh:PIp X .BitOr (ipI fun i j=>Builtin.bitOr i j):=by
 intro pins s σ H x y v u Q I r1 r2 h
 obtain⟨i,j,e1,e2,q⟩:=h
 subst e1;subst e2
 obtain⟨t,rfl⟩:=r1
 obtain⟨t',rfl⟩:=r2
 exact ior_int ⟨.int _,H,I.tok _,⟨_,rfl⟩,q⟩
end
section
variable{X:Cx}{tg:Expr}
noncomputable def Wv(tl:TE):TI:=fun σ H R=>tl σ H fun x H1=>∃d kvs,x = .ref d/\Rd H1 d (.dK kvs)/\∀o,R (Itd d o kvs) (upd H1 d (.frz o (.dK kvs)))
theorem Nl{H:Hp}{d:Addr}{o:HO}(h:H d=some o):upd H d o=H:=funext fun b=>by
 by_cases e:b=d
 ·subst e;rw[A9,h]
 ·rw[B5 e]
theorem Ry{l:Expr}{tl:TE}(hl:PE X l tl):PI X tg l (Wv tl):=by
 intro pins s σ H R I h
 refine thn (hl pins s σ H _ I h) fun v s1 ⟨x,H1,I1,r1,q1⟩=>?_
 obtain⟨d,kvs,e,hq,q⟩:=q1
 subst e
 cases r1
 obtain⟨o,I2,hz,hS,vs,r,es,ep,ho,c1,d1,m1⟩:∃o,Inv X pins σ (upd H1 d (.frz o (.dK kvs))) { s1 with heap:=s1.heap,toks:=s1.toks }/\kvs.length<=sizeLine/\(d == sysModules)=false/\∃vs,KV kvs vs/\∃es ep,s1.heap.get? d=some o/\o.ExactDict/\o.data = .dict es ep/\(PySem.KeysOf (C0 X.prog X.w) es/\Pairs (C0 X.prog X.w) es.toList vs/\(vs.map (·.1)).Nodup):=by
  rcases hq with hq | ⟨o,hq⟩
  ·obtain⟨hz,hS,vs,r,o,es,ep,ho,c1,d1,m1⟩:=(show ObjOk X.prog X.w H1 s1.heap d (.dK kvs)from I1.hok d _ hq)
   exact⟨o,I1.write (t':=s1.toks) (by rw[hq];trivial) (.inl rfl) (fun b u _ e=>e) ⟨_,ho⟩ ⟨ho,hz,hS,vs,r,o,es,ep,ho,c1,d1,m1⟩,hz,hS,vs,r,es,ep,ho,c1,d1,m1⟩
  ·obtain⟨ho,hz,hS,vs,r,o',es,ep,ho',c1,d1,m1⟩:=(show ObjOk X.prog X.w H1 s1.heap d (.frz o (.dK kvs))from I1.hok d _ hq)
   rw[ho]at ho'
   cases ho'
   exact⟨o,by rw[Nl hq];exact I1,hz,hS,vs,r,es,ep,ho,c1,d1,m1⟩
 have hl:kvs.length=vs.length:=r.length
 refine wpAny_pyIter_dict (knd:=C0 X.prog X.w) (ep:=ep) hS ⟨o,es,ho,c1,d1,m1⟩ ?_
 refine⟨s1.heap.objs.size,[s1.heap.objs.size],_,_,upd H1 d (.frz o (.dK kvs)),rfl,I2.kept (t':=s1.toks) fun b o e=>Heap.get?_push_of_some _ e,Jt d1,?_,fun b hb=>?_,q o⟩
 ·rw[hl]
  exact⟨_,Heap.get?_push_size _ rfl,rfl,rfl⟩
 have e:b=s1.heap.objs.size:=by simpa using hb
 subst e
 exact I2.fpOk (Nat.le_refl _) (I2.hok.fresh (Nat.le_refl _))
end
end L2
namespace Sw
open PySem L2
noncomputable def top(i:Nat):Stmt:=PySem.Challenge.pw_strikeweave_k24_greatest_sets.main.body.getD i (.Pass ⟨0,0,0,0⟩)
noncomputable abbrev s_joined:Stmt:=top 10
noncomputable abbrev s_first_bit:Stmt:=top 11
noncomputable abbrev s_greatest_sets:Stmt:=top 12
noncomputable abbrev s_all_found:Stmt:=top 13
noncomputable abbrev s_gather:Stmt:=top 14
noncomputable abbrev s_settle_standing:Stmt:=top 15
noncomputable abbrev s_settle_whole:Stmt:=top 16
noncomputable abbrev s_is_name:Stmt:=top 21
noncomputable abbrev s_check_names:Stmt:=top 22
noncomputable abbrev s_check_strikes:Stmt:=top 23
noncomputable abbrev s_is_strike:Stmt:=top 24
noncomputable abbrev s_law_mix:Stmt:=top 26
noncomputable abbrev s_law_left:Stmt:=top 27
noncomputable abbrev s_law_pick:Stmt:=top 28
noncomputable abbrev s_law_names:Stmt:=top 29
noncomputable abbrev s_law_size:Stmt:=top 30
noncomputable abbrev s_law_strikes:Stmt:=top 31
noncomputable abbrev s_law_web:Stmt:=top 32
noncomputable abbrev s_law_masks:Stmt:=top 33
noncomputable abbrev s_law_set_of:Stmt:=top 34
noncomputable abbrev s_law_hit:Stmt:=top 35
noncomputable abbrev s_law_kept:Stmt:=top 36
noncomputable abbrev s_law_is_quiet:Stmt:=top 37
noncomputable abbrev s_law_stands:Stmt:=top 38
noncomputable abbrev s_law_all_standing:Stmt:=top 39
noncomputable abbrev s_law_sets:Stmt:=top 40
noncomputable abbrev s_law_greatest:Stmt:=top 41
noncomputable abbrev s_law_are_sets:Stmt:=top 42
noncomputable abbrev s_law_told:Stmt:=top 43
noncomputable abbrev s_law_due:Stmt:=top 44
noncomputable abbrev s_law:Stmt:=top 45
noncomputable abbrev s_BadName___init__:Stmt:=E6 (top 3) 0
noncomputable abbrev s_BadStrike___init__:Stmt:=E6 (top 4) 0
noncomputable abbrev s_Marks___init__:Stmt:=E6 (top 9) 0
noncomputable abbrev s_Marks_bits_in:Stmt:=E6 (top 9) 1
noncomputable abbrev s_Marks_names_in:Stmt:=E6 (top 9) 2
noncomputable abbrev s_Marks_first_name:Stmt:=E6 (top 9) 3
noncomputable abbrev s_Marks_set_of:Stmt:=E6 (top 9) 4
noncomputable abbrev s_Marks_struck_by:Stmt:=E6 (top 9) 5
noncomputable abbrev s_Marks_strikers_at:Stmt:=E6 (top 9) 6
noncomputable abbrev s_Marks_unstruck_by:Stmt:=E6 (top 9) 7
noncomputable abbrev s_Marks_kept:Stmt:=E6 (top 9) 8
noncomputable abbrev s_Web___init__:Stmt:=E6 (top 20) 0
noncomputable abbrev s_Web_all_names:Stmt:=E6 (top 20) 1
noncomputable abbrev s_Web_all_strikes:Stmt:=E6 (top 20) 2
noncomputable abbrev s_Web_strikers:Stmt:=E6 (top 20) 3
noncomputable abbrev s_Web_struck:Stmt:=E6 (top 20) 4
noncomputable abbrev s_Web_check_has:Stmt:=E6 (top 20) 5
structure Tx(K:PySem.W.Frag)(mg:Str->Option Value) where
 joined:Fn K mg "joined" s_joined ["sets"]
 first_bit:Fn K mg "first_bit" s_first_bit ["some"]
 greatest_sets:Fn K mg "greatest_sets" s_greatest_sets ["web"]
 all_found:Fn K mg "all_found" s_all_found ["web", "settle", "greatest"]
 gather:Fn K mg "gather" s_gather ["marks", "settle", "greatest", "chosen", "barred", "found"]
 settle_standing:Fn K mg "settle_standing" s_settle_standing ["marks", "chosen", "barred"]
 settle_whole:Fn K mg "settle_whole" s_settle_whole ["marks", "chosen", "barred"]
 is_name:Fn K mg "is_name" s_is_name ["thing"]
 check_names:Fn K mg "check_names" s_check_names ["names"]
 check_strikes:Fn K mg "check_strikes" s_check_strikes ["names", "strikes"]
 is_strike:Fn K mg "is_strike" s_is_strike ["names", "thing"]
 law_mix:Fn K mg "_law_mix" s_law_mix ["_law_cell", "_law_k"]
 law_left:Fn K mg "_law_left" s_law_left ["_law_script", "_law_k"]
 law_pick:Fn K mg "_law_pick" s_law_pick ["_law_left_here", "_law_many"]
 law_names:Fn K mg "_law_names" s_law_names ["_law_left_here", "_law_many"]
 law_size:Fn K mg "_law_size" s_law_size ["_law_left_here"]
 law_strikes:Fn K mg "_law_strikes" s_law_strikes ["_law_left_here", "_law_names_here"]
 law_web:Fn K mg "_law_web" s_law_web ["_law_left_here"]
 law_masks:Fn K mg "_law_masks" s_law_masks ["_law_names_here", "_law_strikes_here"]
 law_set_of:Fn K mg "_law_set_of" s_law_set_of ["_law_view", "_law_mask"]
 law_hit:Fn K mg "_law_hit" s_law_hit ["_law_view", "_law_mask"]
 law_kept:Fn K mg "_law_kept" s_law_kept ["_law_view", "_law_mask"]
 law_is_quiet:Fn K mg "_law_is_quiet" s_law_is_quiet ["_law_view", "_law_mask"]
 law_stands:Fn K mg "_law_stands" s_law_stands ["_law_view", "_law_mask"]
 law_all_standing:Fn K mg "_law_all_standing" s_law_all_standing ["_law_view"]
 law_sets:Fn K mg "_law_sets" s_law_sets ["_law_view", "_law_masks_here"]
 law_greatest:Fn K mg "_law_greatest" s_law_greatest ["_law_masks_here"]
 law_are_sets:Fn K mg "_law_are_sets" s_law_are_sets ["_law_found"]
 law_told:Fn K mg "_law_told" s_law_told ["_law_web_here"]
 law_due:Fn K mg "_law_due" s_law_due ["_law_view"]
 CMarks:Addr
 clMarks:Cls K CMarks
 mgMarks:mg "Marks" = some (.ref CMarks)
 nMarks_names:NoAttr K CMarks "names"
 nMarks_full:NoAttr K CMarks "full"
 nMarks_bit_of:NoAttr K CMarks "bit_of"
 nMarks_strikers_of:NoAttr K CMarks "strikers_of"
 nMarks_struck_of:NoAttr K CMarks "struck_of"
 nMarks_loops:NoAttr K CMarks "loops"
 fMarks___init__:Addr
 fdMarks___init__:FuncData
 FMarks___init__:Fun K "__init__" "Marks.__init__" s_Marks___init__ fMarks___init__ fdMarks___init__
 bMarks___init__:Binds K fdMarks___init__ ["self", "web"] []
 mkMarks:Mk K CMarks fMarks___init__
 mMarks_bits_in:Mt K CMarks "bits_in" "Marks.bits_in" s_Marks_bits_in ["self", "some"]
 mMarks_names_in:Mt K CMarks "names_in" "Marks.names_in" s_Marks_names_in ["self", "some"]
 mMarks_first_name:Mt K CMarks "first_name" "Marks.first_name" s_Marks_first_name ["self", "some"]
 mMarks_set_of:Mt K CMarks "set_of" "Marks.set_of" s_Marks_set_of ["self", "some"]
 mMarks_struck_by:Mt K CMarks "struck_by" "Marks.struck_by" s_Marks_struck_by ["self", "some"]
 mMarks_strikers_at:Mt K CMarks "strikers_at" "Marks.strikers_at" s_Marks_strikers_at ["self", "some"]
 mMarks_unstruck_by:Mt K CMarks "unstruck_by" "Marks.unstruck_by" s_Marks_unstruck_by ["self", "some"]
 mMarks_kept:Mt K CMarks "kept" "Marks.kept" s_Marks_kept ["self", "some"]
 CWeb:Addr
 clWeb:Cls K CWeb
 mgWeb:mg "Web" = some (.ref CWeb)
 nWeb_names:NoAttr K CWeb "names"
 nWeb_strikes:NoAttr K CWeb "strikes"
 nWeb_strikers_by_name:NoAttr K CWeb "strikers_by_name"
 nWeb_struck_by_name:NoAttr K CWeb "struck_by_name"
 fWeb___init__:Addr
 fdWeb___init__:FuncData
 FWeb___init__:Fun K "__init__" "Web.__init__" s_Web___init__ fWeb___init__ fdWeb___init__
 bWeb___init__:Binds K fdWeb___init__ ["self", "names", "strikes"] []
 mkWeb:Mk K CWeb fWeb___init__
 mWeb_all_names:Mt K CWeb "all_names" "Web.all_names" s_Web_all_names ["self"]
 mWeb_all_strikes:Mt K CWeb "all_strikes" "Web.all_strikes" s_Web_all_strikes ["self"]
 mWeb_strikers:Mt K CWeb "strikers" "Web.strikers" s_Web_strikers ["self", "name"]
 mWeb_struck:Mt K CWeb "struck" "Web.struck" s_Web_struck ["self", "name"]
 mWeb_check_has:Mt K CWeb "check_has" "Web.check_has" s_Web_check_has ["self", "name"]
 CStrikeError:Addr
 bmStrikeError:List Value
 xcStrikeError:XC K CStrikeError bmStrikeError
 mgStrikeError:mg "StrikeError" = some (.ref CStrikeError)
 CBadName:Addr
 bmBadName:List Value
 xcBadName:XC K CBadName bmBadName
 mgBadName:mg "BadName" = some (.ref CBadName)
 CBadStrike:Addr
 bmBadStrike:List Value
 xcBadStrike:XC K CBadStrike bmBadStrike
 mgBadStrike:mg "BadStrike" = some (.ref CBadStrike)
 CNoName:Addr
 bmNoName:List Value
 xcNoName:XC K CNoName bmNoName
 mgNoName:mg "NoName" = some (.ref CNoName)
 CTooMany:Addr
 bmTooMany:List Value
 xcTooMany:XC K CTooMany bmTooMany
 mgTooMany:mg "TooMany" = some (.ref CTooMany)
 xgBadName:XG K CBadName
 isBadName:IsC K CBadName
 nBadName_place:NoAttr K CBadName "place"
 fBadName___init__:Addr
 fdBadName___init__:FuncData
 FBadName___init__:Fun K "__init__" "BadName.__init__" s_BadName___init__ fBadName___init__ fdBadName___init__
 bBadName___init__:Binds K fdBadName___init__ ["self", "place"] []
 meBadName:Meth K CBadName "__init__" fBadName___init__
 xgBadStrike:XG K CBadStrike
 isBadStrike:IsC K CBadStrike
 nBadStrike_place:NoAttr K CBadStrike "place"
 fBadStrike___init__:Addr
 fdBadStrike___init__:FuncData
 FBadStrike___init__:Fun K "__init__" "BadStrike.__init__" s_BadStrike___init__ fBadStrike___init__ fdBadStrike___init__
 bBadStrike___init__:Binds K fdBadStrike___init__ ["self", "place"] []
 meBadStrike:Meth K CBadStrike "__init__" fBadStrike___init__
 xgNoName:XG K CNoName
 isNoName:IsC K CNoName
 niNoName:PySem.W.findIn K (.ref CNoName) "__init__" = some (some (.builtin "ValueError.__init__"))
 xgTooMany:XG K CTooMany
 isTooMany:IsC K CTooMany
 upTooMany_TooMany:(Value.ref CTooMany::bmTooMany).contains (.ref CTooMany)=true
 niTooMany:PySem.W.findIn K (.ref CTooMany) "__init__" = some (some (.builtin "ValueError.__init__"))
 gMOST:∃t,mg "MOST" = some (.int 300 t)
 gLETTERS:∃t,mg "LETTERS" = some (.str "abcdefghijklmnopqrstuvwxyz" t)
 gLONGEST_NAME:∃t,mg "LONGEST_NAME" = some (.int 8 t)
 b_len:mg "len" = none
 b_range:mg "range" = none
 b_enumerate:mg "enumerate" = none
 b_min:mg "min" = none
 b_max:mg "max" = none
 b_sum:mg "sum" = none
 b_abs:mg "abs" = none
 b_sorted:mg "sorted" = none
 b_int:mg "int" = none
 b_str:mg "str" = none
 b_list:mg "list" = none
 b_tuple:mg "tuple" = none
 b_set:mg "set" = none
 b_isinstance:mg "isinstance" = none
 b_all:mg "all" = none
 b_any:mg "any" = none
 b_ValueError:mg "ValueError" = none
end Sw
namespace L2
open PySem
theorem T7{J:It}{xs:List V}{a:Addr}{H0:Hp}(as:AsSeq J xs a H0){g:TG}{tb:TS}{D:Ends}{σ:St}{H:Hp}(Pv:Nat->St->Hp->Prop)(h0:Pv 0 σ H)(hk:∀i σ H,i<=xs.length->Pv i σ H->KeepAt a H0 H)
  (hs:∀i σ H x,xs[i]?=some x->Pv i σ H->∀D':Ends,(∀σ' H',Pv (i+1) σ' H'->D'.nx σ' H')->D'.rt=D.rt->g x σ H fun σ2 H2=>tb D' σ2 H2) (hd:∀σ H,Pv xs.length σ H->D.nx σ H) :
  ∃W:Nat->Nat->St->Hp->Prop,(∃m,W 0 m σ H)/\∀i m σ H,W i m σ H ->
   (J.stop i H/\D.nx σ H)\/(J.go i H/\∃N:St->Hp->Prop,(∀σ' H',N σ' H'->∃m',m' < m/\W (i+1) m' σ' H')/\∀x H',J.yld i H x H'->g x σ H' fun σ2 H2=>tb { D with nx:=N,ct:=N,bk:=D.nx } σ2 H2) :=
 Vu as Pv h0 hk (fun i σ H x hx hp=>hs i σ H x hx hp _ (fun _ _ z=>z) rfl) hd
theorem J5{lo:Int}{n:Nat}{g:TG}{tb:TS}{D:Ends}{σ:St}{H:Hp}(Pv:Nat->St->Hp->Prop)(h0:Pv 0 σ H)
  (hs:∀i σ H,i<n->Pv i σ H->∀D':Ends,(∀σ' H',Pv (i+1) σ' H'->D'.nx σ' H')->D'.rt=D.rt->g (.int (lo+i)) σ H fun σ2 H2=>tb D' σ2 H2) (hd:∀σ H,Pv n σ H->D.nx σ H) :
  ∃W:Nat->Nat->St->Hp->Prop,(∃m,W 0 m σ H)/\∀i m σ H,W i m σ H ->
   ((Itr lo n).stop i H/\D.nx σ H)\/((Itr lo n).go i H/\∃N:St->Hp->Prop,(∀σ' H',N σ' H'->∃m',m' < m/\W (i+1) m' σ' H')/\∀x H',(Itr lo n).yld i H x H'->g x σ H' fun σ2 H2=>tb { D with nx:=N,ct:=N,bk:=D.nx } σ2 H2) :=
 Jk Pv h0 (fun i σ H hi hp=>hs i σ H hi hp _ (fun _ _ z=>z) rfl) hd
theorem ex1{α:Type}{A C:α->Prop}{a:α}(e:A a)(h:C a):∃v,A v/\C v:=⟨a,e,h⟩
theorem Bd{α0 α1 α2:Type}{A0 A1 A2 A3 A4 A5:α0->α1->α2->Prop}{a:α0}{b:α1}{c:α2}(h0:A0 a b c)(h1:A1 a b c)(h2:A2 a b c)(h3:A3 a b c)(h4:A4 a b c)(h5:A5 a b c):∃a b c,A0 a b c/\A1 a b c/\A2 a b c/\A3 a b c/\A4 a b c/\A5 a b c:=⟨a,b,c,h0,h1,h2,h3,h4,h5⟩
theorem Qz{α0 α1 α2 α3 α4 α5 α6:Type}{A0 A1 A2 A3:α0->α1->α2->α3->α4->α5->α6->Prop}{a:α0}{b:α1}{c:α2}{d:α3}{e:α4}{f:α5}{g:α6}(h0:A0 a b c d e f g)(h1:A1 a b c d e f g)(h2:A2 a b c d e f g)(h3:A3 a b c d e f g):∃a b c d e f g,A0 a b c d e f g/\A1 a b c d e f g/\A2 a b c d e f g/\A3 a b c d e f g:=⟨a,b,c,d,e,f,g,h0,h1,h2,h3⟩
theorem Wz{α0 α1 α2 α3 α4 α5:Type}{A0 A1 A2 A3 A4 A5 A6 A7:α0->α1->α2->α3->α4->α5->Prop}{a:α0}{b:α1}{c:α2}{d:α3}{e:α4}{f:α5}(h0:A0 a b c d e f)(h1:A1 a b c d e f)(h2:A2 a b c d e f)(h3:A3 a b c d e f)(h4:A4 a b c d e f)(h5:A5 a b c d e f)(h6:A6 a b c d e f)(h7:A7 a b c d e f):∃a b c d e f,A0 a b c d e f/\A1 a b c d e f/\A2 a b c d e f/\A3 a b c d e f/\A4 a b c d e f/\A5 a b c d e f/\A6 a b c d e f/\A7 a b c d e f:=⟨a,b,c,d,e,f,h0,h1,h2,h3,h4,h5,h6,h7⟩
theorem Xn{α0 α1 α2 α3:Type}{A0 A1 A2 A3 A4 A5 A6:α0->α1->α2->α3->Prop}{a:α0}{b:α1}{c:α2}{d:α3}(h0:A0 a b c d)(h1:A1 a b c d)(h2:A2 a b c d)(h3:A3 a b c d)(h4:A4 a b c d)(h5:A5 a b c d)(h6:A6 a b c d):∃a b c d,A0 a b c d/\A1 a b c d/\A2 a b c d/\A3 a b c d/\A4 a b c d/\A5 a b c d/\A6 a b c d:=⟨a,b,c,d,h0,h1,h2,h3,h4,h5,h6⟩
theorem B7{α0 α1:Type}{A0 A1 A2:α0->α1->Prop}{a:α0}{b:α1}(h0:A0 a b)(h1:A1 a b)(h2:A2 a b):∃a b,A0 a b/\A1 a b/\A2 a b:=⟨a,b,h0,h1,h2⟩
theorem B8{t u:TS}{D:Ends}{σ:St}{H:Hp}(h:∀N:St->Hp->Prop,(∀σ' H',u D σ' H'->N σ' H')->t { D with nx:=N } σ H):Ve t u D σ H:=h _ fun _ _ z=>z
theorem Vk{i:Nat}{v:V}{t u:TS}{D:Ends}{σ:St}{H:Hp}(h:∀N:St->Hp->Prop,(∀σ' H',u D σ' H'->N σ' H')->t { D with nx:=N } (σ.set i (some v)) H):T4 i v σ H (fun σ2 H2=>Ve t u D σ2 H2):=h _ fun _ _ z=>z
end L2
namespace Sw
open PySem L2
section
variable{P:Program}{w:World}{K:PySem.W.Frag}{mg:Str->Option Value}{base:Heap}
noncomputable def Ro(c:Nat):Bool:=decide (97<=c)&&decide (c<=122)
noncomputable def K3(x:Str):Bool:=decide (1<=x.length)&&decide (x.length<=8)&&x.cps.toList.all Ro
theorem Ek:("abcdefghijklmnopqrstuvwxyz":Str).cps.toList=List.range' 97 26:=by decide +kernel
theorem Sc(c:Nat):decide (c∈("abcdefghijklmnopqrstuvwxyz":Str).cps.toList)=Ro c:=by
 rw[Ek]
 unfold Ro
 by_cases h1:97<=c
 ·by_cases h2:c<=122
  ·rw[decide_eq_true (List.mem_range'_1.mpr (by omega)),decide_eq_true h1,decide_eq_true h2];rfl
  ·rw[decide_eq_false (fun z=>by have:=List.mem_range'_1.mp z;omega),decide_eq_false h2,Bool.and_false]
 ·rw[decide_eq_false (fun z=>by have:=List.mem_range'_1.mp z;omega),decide_eq_false h1,Bool.false_and]
theorem Ie:FnScope ["thing"] ["thing"] (B4 s_is_name):=⟨rfl,rfl,rfl,by decide +kernel,rfl,by decide +kernel,by decide +kernel⟩
noncomputable def y7:Sp:=fun vs H Q _=>∃x,vs = [.str x]/\x.length<=1000/\∀H',Same H H'->Q (.bl (K3 x)) H'
theorem Jd(T:Tx K mg):FnOk P w K mg base CX0 1 T.is_name.f T.is_name.fd ["thing"] y7:=by
 refine T.is_name.F.ok Ie (fun vs H Q E h=>?_) (fun cdv A outer s H vs Q E hr h=>?_)
 ·obtain⟨x,rfl,_⟩:=h
  rfl
 ·obtain⟨x,rfl,hx,k⟩:=h
  refine⟨_,(B2 (J7 (PW.pt (Eu (S8 (K7 (E2 (g9 K) T.b_isinstance F0 (A8 (pv 0) (A8 (Jr T.b_str Qs) B1))))) (t6 (S8 (Oz Vq Vq B6 (E2 Cw T.b_len O8 (A8 (pv 0) B1)) (Vb T.gLONGEST_NAME)))))) (B3 (C1 w5)) D0)
   (B3 (C1 (E2 (Fw K) T.b_all Gm (A8 (Q5 (N':=["letter"]) (cap:=[none]) (cl:=[]) (K0 trivial trivial) rfl (Us (pv 0)) (fun _ _ _ _=>by exact⟨(pgC 0),E5,(O3 Jm (pv 0) (Wu T.gLETTERS) rfl)⟩)) B1))))),?_⟩
  have h64:x.length<=sizeLine:=by rw[sizeLine_eq];omega
  have hlen:x.cps.size=x.length:=rfl
  refine ex1 rfl ⟨.str x, "str",_,true,rfl,.str x,rfl,ex1 rfl ?_⟩
  refine Az ?_
  refine ex1 rfl ⟨x,rfl,h64,B7 rfl rfl (ex1 rfl ?_)⟩
  refine V8 (fun c1=>?_) (fun c1=>?_)
  ·have c1:(1:Int)<=(x.length:Int):=of_decide_eq_true c1
   refine B7 rfl rfl (ex1 rfl ?_)
   by_cases c2:(x.length:Int)<=8
   ·rw[decide_eq_true c2]
    refine Az ?_
    refine ex1 rfl ⟨x,rfl,fun D hD=>?_⟩
    refine Ai (n:=x.cps.size) (fun i σ H'=>(∃v,σ = [v])/\Same H H'/\H' D=some (.lst ((x.cps.toList.take i).map fun c=>V.bl (Ro c)))) ⟨⟨_,rfl⟩,Same.new hD,A9⟩ (fun i _ _ hi _=>hi) (fun _ _ _=>rfl) ?_ ?_
    ·rintro i σ H1 v H' N hi ⟨⟨v0,rfl⟩,s1,e1⟩ ⟨rfl,c,hc,rfl⟩ hN
     refine Ho ?_
     refine ex1 rfl (B7 rfl rfl ⟨_,e1,?_,?_⟩)
     ·rw[List.length_map,List.length_take,sizeLine_eq];omega
     ·rw[PySem.StrLaws.found_one,Sc]
      refine hN _ _ ⟨⟨_,rfl⟩,s1.upd hD,?_⟩
      rw[A9]
      have:x.cps.toList[i]?=some c:=by rw[Array.getElem?_toList];exact hc
      rw[List.take_add_one,this,List.map_append]
      rfl
    ·rintro σ H1 ⟨_,s1,e1⟩
     refine⟨D,x.cps.toList.map Ro,rfl,SqL.of ?_,?_⟩
     ·rw[e1,<-Array.length_toList,List.take_length,List.map_map];rfl
     ·have e:(x.cps.toList.map Ro).all id=K3 x:=by
       unfold K3
       rw[decide_eq_true (show 1<=x.length by omega),decide_eq_true (show x.length<=8 by omega),List.all_map]
       rfl
      rw[e]
      exact k _ s1
   ·rw[decide_eq_false c2]
    refine Qg ?_
    have e:K3 x=false:=by
     unfold K3
     rw[decide_eq_false (show ¬x.length<=8 by omega),Bool.and_false,Bool.false_and]
    have:=k H (Same.refl H)
    rw[e]at this
    exact this
  ·have c1:¬(1:Int)<=(x.length:Int):=fun z=>c1 (decide_eq_true z)
   refine ex1 rfl ?_
   refine Qg ?_
   have e:K3 x=false:=by
    unfold K3
    rw[decide_eq_false (show ¬1<=x.length by omega),Bool.false_and,Bool.false_and]
   have:=k H (Same.refl H)
   rw[e]at this
   exact this
theorem take_succ{α:Type}{l:List α}{i:Nat}{x:α}(h:l[i]?=some x):l.take (i+1)=l.take i ++ [x]:=by
 rw[List.take_add_one,h];rfl
theorem z6{α:Type}{l:List α}{i:Nat}{x:α}(nd:l.Nodup)(h:l[i]?=some x):x∉l.take i:=by
 intro hm
 obtain⟨j,hj,e⟩:=List.getElem_of_mem hm
 have hj':j<i:=by rw[List.length_take]at hj;omega
 rw[List.getElem_take]at e
 obtain⟨hi,e'⟩:=List.getElem?_eq_some_iff.mp h
 have:=(List.getElem_inj nd).mp (e.trans e'.symm)
 omega
theorem S5:FnScope ["names", "seen", "place", "name"] ["names"] (B4 s_check_names):=⟨rfl,rfl,rfl,by decide +kernel,rfl,by decide +kernel,by decide +kernel⟩
noncomputable def T2(ss:List Str):Prop:=(∀x∈ss,K3 x=true)/\ss.Nodup/\ss.length<=100
noncomputable def S6(K:PySem.W.Frag):Sp:=fun vs H Q _=>∃(p:Addr) (ss:List Str),vs = [.ref p]/\SqL K H p (ss.map V.str)/\T2 ss/\∀H',Same H H'->Q .non H'
theorem Lu{x:Str}(h:K3 x=true):1<=x.length/\x.length<=8:=by
 unfold K3 at h
 rw[Bool.and_eq_true,Bool.and_eq_true]at h
 exact⟨of_decide_eq_true h.1.1,of_decide_eq_true h.1.2⟩
theorem w4(T:Tx K mg):FnOk P w K mg base CX0 2 T.check_names.f T.check_names.fd ["names"] (S6 K):=by
 have G_is_name:FnOk P w K mg base CX0 1 T.is_name.f T.is_name.fd ["thing"] y7:=Jd T
 have sc:=S5
 refine T.check_names.F.ok S5 (fun vs H Q E h=>?_) (fun cdv A outer s H vs Q E hr h=>?_)
 ·obtain⟨p,ss,rfl,_⟩:=h
  rfl
 ·obtain⟨a,ss,rfl,hS,⟨hN,hD,hL⟩,k⟩:=h
  have hu:=Ba hr
  refine⟨_,(B2 (C6 (i:=1) sc.nd rfl (by first | exact Or.inl rfl | exact Or.inr rfl) (w9 (Sg P w) (by rfl) T.b_set Qt))
   (B3 (J9 PassesOwn.never rfl (piE K T.b_enumerate (A8 (pv 0) B1)) (pgT K (n:=2) (D4 (C4 (i:=2) sc.nd rfl (by first | exact Or.inl rfl | exact Or.inr rfl)) (D4 (C4 (i:=3) sc.nd rfl (by first | exact Or.inl rfl | exact Or.inr rfl)) O1)))
   (B2 (J7 (PW.pt (Eu (S8 (K7 (D9 T.is_name G_is_name (hr.mono (by decide)) (A8 (pv 3) B1)))) (t6 (C8 (Xb P w) (pv 3) (pv 1) rfl)))) (B3 Bq) D0)
   (B3 (D8 (Qi P w (To P w) (pv 1) (A8 (pv 3) B1)))))))),?_⟩
  refine⟨rfl,fun p hp=>?_⟩
  have s0:Same H (upd H p (Jf P w p [])):=Same.new hp
  refine ex1 rfl ⟨a,ex1 rfl ⟨(s0.at a).seqL hS,Sn (n:=ss.length) (fun i σ H1=>∃v2 v3,σ = [some (.ref a),some (.ref p),v2,v3]/\Same H H1/\H1 p=some (Jf P w p ((ss.take i).map Sum.inr))) ⟨_,_,rfl,s0,A9⟩ ?_ ?_ ?_ ?_⟩⟩
  ·rintro i σ H1 hi ⟨v2,v3,rfl,s1,e1⟩
   exact⟨_,_,(s1.at a).seqL hS,by rw[List.getElem?_map,List.getElem?_eq_getElem hi];rfl⟩
  ·rintro σ H1 ⟨v2,v3,rfl,s1,e1⟩
   exact⟨_,(s1.at a).seqL hS,by rw[List.length_map]⟩
  ·rintro i σ H1 v H' hi ⟨v2,v3,rfl,s1,e1⟩ ⟨t,x,rfl,ht,rfl,hx⟩
   have hx:=hx _ ((s1.at a).seqL hS)
   have hi':ss[i]?=some ss[i]:=List.getElem?_eq_getElem hi
   rw[List.getElem?_map,hi']at hx
   cases hx
   have hm:ss[i]∈ss:=List.getElem_mem hi
   have hnb:=hN _ hm
   have hlen:=Lu hnb
   have npt:p≠t:=B0 e1 ht
   refine⟨t,ex1 rfl ⟨SqT.of A9,rfl,_,ex1 rfl (B7 rfl rfl ?_)⟩⟩
   refine ex1 rfl ⟨ss[i],rfl,by omega,fun H2 s2=>⟨_,rfl,?_⟩⟩
   rw[hnb]
   refine Az ?_
   have s12:Same H H2:=(s1.trans (Same.new ht)).trans s2
   have e2:H2 p=some (Jf P w p ((ss.take i).map Sum.inr)):=s2 _ _ (by rw[B5 npt];exact e1)
   have hnin:¬(Sum.inr ss[i]:Key)∈(ss.take i).map Sum.inr:=fun z=>by
    obtain⟨y,hy,e⟩:=List.mem_map.mp z
    cases e
    exact z6 hD hi' hy
   refine ex1 rfl (ex1 rfl ⟨p,_,Sum.inr ss[i],rfl,rfl,e2,ex1 rfl ?_⟩)
   rw[if_neg (by decide),decide_eq_false hnin]
   refine Az ?_
   refine ex1 rfl ⟨⟨p,rfl,.inl ⟨_,e2⟩⟩,ex1 rfl ⟨p,_,Sum.inr ss[i],rfl,rfl,e2,?_,?_⟩⟩
   ·rw[List.length_map,List.length_take];omega
   ·refine⟨_,ex1 rfl ⟨s12.upd hp,?_⟩⟩
    rw[A9]
    unfold We
    rw[if_neg hnin,take_succ hi',List.map_append]
    rfl
  ·rintro σ H1 ⟨v2,v3,rfl,s1,e1⟩
   exact k H1 s1
end
theorem Cl(ss:List Str):(ss.map V.str).all Am=true:=by
 rw[List.all_eq_true]
 intro v hv
 obtain⟨x,_,rfl⟩:=List.mem_map.mp hv
 rfl
theorem Nc(x:Str)(ss:List Str):inV (.str x) (ss.map V.str)=decide (x∈ss):=by
 unfold inV
 rw[List.any_map]
 induction ss with
 | nil=>rfl
 | cons y r ih =>
  rw[List.any_cons,ih]
  show((y == x)||decide (x∈r))=decide (x∈y::r)
  by_cases e:x=y
  ·subst e
   simp
  ·have:(y == x)=false:=by simpa using fun z=>e z.symm
   rw[this,Bool.false_or]
   by_cases h:x∈r
   ·rw[decide_eq_true h,decide_eq_true (List.mem_cons_of_mem _ h)]
   ·rw[decide_eq_false h,decide_eq_false (fun z=>(List.mem_cons.mp z).elim e h)]
theorem Lj{K:PySem.W.Frag}{H:Hp}{p:Addr}{x:Str}{ss:List Str}{Q:VK}(h:Sqs K H p (ss.map V.str))(q:Q (.bl (decide (x∈ss))) H):rIn K false (.str x) (.ref p) H Q :=
 ⟨p,_,rfl,h,rfl,Cl ss,by rw[if_neg (by decide),Nc];exact q⟩
theorem Ia{K:PySem.W.Frag}{H:Hp}{p:Addr}{x:Str}{ss:List Str}{Q:VK}(h:Sqs K H p (ss.map V.str))(q:Q (.bl (!decide (x∈ss))) H):rIn K true (.str x) (.ref p) H Q :=
 ⟨p,_,rfl,h,rfl,Cl ss,by rw[if_pos rfl,Nc];exact q⟩
section
variable{P:Program}{w:World}{K:PySem.W.Frag}{mg:Str->Option Value}{base:Heap}
theorem Cn:FnScope ["names", "thing"] ["names", "thing"] (B4 s_is_strike):=⟨rfl,rfl,rfl,by decide +kernel,rfl,by decide +kernel,by decide +kernel⟩
noncomputable def X9(K:PySem.W.Frag):Sp:=fun vs H Q _=>∃(p:Addr) (ss:List Str) (t:Addr) (x y:Str),vs = [.ref p,.ref t]/\SqL K H p (ss.map V.str)/\H t=some (.tup [.str x,.str y])/\x∈ss/\y∈ss/\Q (.bl true) H
theorem Dc(T:Tx K mg):FnOk P w K mg base CX0 1 T.is_strike.f T.is_strike.fd ["names", "thing"] (X9 K):=by
 refine T.is_strike.F.ok Cn (fun vs H Q E h=>?_) (fun cdv A outer s H vs Q E hr h=>?_)
 ·obtain⟨p,ss,t,x,y,rfl,_⟩:=h
  rfl
 ·obtain⟨p,ss,t,x,y,rfl,hS,ht,hx,hy,k⟩:=h
  refine⟨_,(B2 (J7 (PW.pt (Eu (S8 (K7 (E2 (g9 K) T.b_isinstance F0 (A8 (pv 1) (A8 (Jr T.b_tuple Og) B1))))) (t6 (C8 Qx (E2 (Q6 K) T.b_len O8 (A8 (pv 1) B1)) B6 (E3 _))))) (B3 (C1 w5)) D0)
   (B3 (C1 (Ke (O3 (Ux K) (K4 (ixT K) (pv 1) B6 (fun _ _=>rfl)) (pv 0) rfl) (Ks (O3 (Ux K) (K4 (ixT K) (pv 1) B6 (fun _ _=>rfl)) (pv 0) rfl)))))),?_⟩
  refine ex1 rfl ⟨_, "tuple",_,true,rfl,.tup ht,rfl,ex1 rfl ?_⟩
  refine Az ?_
  refine ex1 rfl (B7 (a:=t) rfl (.inr (SqT.of ht)) ⟨rfl,ex1 rfl ?_⟩)
  refine Az ?_
  refine ex1 rfl ⟨t,_,B7 rfl rfl ⟨SqT.of ht,rfl,ex1 rfl (Lj (.inl hS) ⟨_,rfl,?_⟩)⟩⟩
  rw[decide_eq_true hx]
  refine Qg ?_
  refine ex1 rfl ⟨t,_,B7 rfl rfl ⟨SqT.of ht,rfl,ex1 rfl (Lj (.inl hS) ?_)⟩⟩
  rw[decide_eq_true hy]
  exact k
structure StrkOk(ss:List Str)(ps:List PA2):Prop where
 nm:∀q∈ps,q.2.1∈ss/\q.2.2∈ss
 nd:(ps.map fun q=>q.2).Nodup
 len:ps.length<=200
noncomputable def J8(ps:List PA2):List V:=ps.map fun q=>V.ref q.1
noncomputable def Ec(ps:List PA2):List (List Key×Addr):=ps.map fun q=>([.inr q.2.1,.inr q.2.2],q.1)
theorem Ov{H:Hp}{ps:List PA2}(h:∀q∈ps,E4 H q):Gy H (Ec ps):=fun k hk=>by
 obtain⟨q,hq,rfl⟩:=List.mem_map.mp hk
 exact h q hq
theorem C7{H H':Hp}{ps:List PA2}(s:Same H H')(h:∀q∈ps,E4 H q):∀q∈ps,E4 H' q:=fun q hq=>s _ _ (h q hq)
theorem O5:FnScope ["names", "strikes", "seen", "place", "strike"] ["names", "strikes"] (B4 s_check_strikes):=⟨rfl,rfl,rfl,by decide +kernel,rfl,by decide +kernel,by decide +kernel⟩
noncomputable def P0(K:PySem.W.Frag):Sp:=fun vs H Q _=>∃(p:Addr) (ss:List Str) (a:Addr) (ps:List PA2),vs = [.ref p,.ref a]/\SqL K H p (ss.map V.str)/\SqL K H a (J8 ps)/\(∀q∈ps,E4 H q)/\StrkOk ss ps/\∀H',Same H H'->Q .non H'
theorem Y3(T:Tx K mg):FnOk P w K mg base CX0 2 T.check_strikes.f T.check_strikes.fd ["names", "strikes"] (P0 K):=by
 have G_is_strike:FnOk P w K mg base CX0 1 T.is_strike.f T.is_strike.fd ["names", "thing"] (X9 K):=Dc T
 have sc:=O5
 refine T.check_strikes.F.ok O5 (fun vs H Q E h=>?_) (fun cdv A outer s H vs Q E hr h=>?_)
 ·obtain⟨p,ss,t,x,rfl,_⟩:=h
  rfl
 ·obtain⟨n,ss,a,ps,rfl,hS,hP,hI,⟨hN,hD,hL⟩,k⟩:=h
  have hu:=Ba hr
  refine⟨_,(B2 (C6 (i:=2) sc.nd rfl (by first | exact Or.inl rfl | exact Or.inr rfl) (w9 (Nq P w) (by rfl) T.b_set Qt))
   (B3 (J9 PassesOwn.never rfl (piE K T.b_enumerate (A8 (pv 1) B1)) (pgT K (n:=2) (D4 (C4 (i:=3) sc.nd rfl (by first | exact Or.inl rfl | exact Or.inr rfl)) (D4 (C4 (i:=4) sc.nd rfl (by first | exact Or.inl rfl | exact Or.inr rfl)) O1)))
   (B2 (J7 (PW.pt (Eu (S8 (K7 (D9 T.is_strike G_is_strike (hr.mono (by decide)) (A8 (pv 0) (A8 (pv 4) B1))))) (t6 (C8 (Xf P w hu) (pv 4) (pv 2) rfl)))) (B3 Bq) D0)
   (B3 (D8 (Qi P w (Um P w hu) (pv 2) (A8 (pv 4) B1)))))))),?_⟩
  refine⟨rfl,fun p hp=>?_⟩
  have s0:Same H (upd H p (Jg P w p [])):=Same.new hp
  refine ex1 rfl ⟨a,ex1 rfl ⟨(s0.at a).seqL hP,Sn (n:=ps.length) (fun i σ H1=>∃v3 v4,σ = [some (.ref n),some (.ref a),some (.ref p),v3,v4]/\Same H H1/\H1 p=some (Jg P w p (Ec (ps.take i)))) ⟨_,_,rfl,s0,A9⟩ ?_ ?_ ?_ ?_⟩⟩
  ·rintro i σ H1 hi ⟨v2,v3,rfl,s1,e1⟩
   exact⟨_,_,(s1.at a).seqL hP,by unfold J8;rw[List.getElem?_map,List.getElem?_eq_getElem hi];rfl⟩
  ·rintro σ H1 ⟨v2,v3,rfl,s1,e1⟩
   exact⟨_,(s1.at a).seqL hP,by unfold J8;rw[List.length_map]⟩
  ·rintro i σ H1 v H' hi ⟨v2,v3,rfl,s1,e1⟩ ⟨t,x,rfl,ht,rfl,hx⟩
   have hx:=hx _ ((s1.at a).seqL hP)
   have hi':ps[i]?=some ps[i]:=List.getElem?_eq_getElem hi
   unfold J8 at hx
   rw[List.getElem?_map,hi']at hx
   cases hx
   have hm:ps[i]∈ps:=List.getElem_mem hi
   obtain⟨hn1,hn2⟩:=hN _ hm
   have npt:p≠t:=B0 e1 ht
   have s2:Same H (upd H1 t (.tup [.int i,.ref ps[i].1])):=s1.trans (Same.new ht)
   have hq:=s2 _ _ (hI _ hm)
   refine⟨t,ex1 rfl ⟨SqT.of A9,rfl,_,ex1 rfl (B7 rfl rfl ?_)⟩⟩
   refine ex1 rfl (ex1 rfl ⟨n,ss,ps[i].1,ps[i].2.1,ps[i].2.2,rfl,(s2.at n).seqL hS,hq,hn1,hn2,ex1 rfl ?_⟩)
   refine Az ?_
   have e2:(upd H1 t (.tup [.int i,.ref ps[i].1])) p=some (Jg P w p (Ec (ps.take i))):=by rw[B5 npt];exact e1
   have hin:Gy (upd H1 t (.tup [.int i,.ref ps[i].1])) (Ec (ps.take i)):=Ov (C7 s2 fun q hq=>hI q (List.mem_of_mem_take hq))
   have hne:∀q∈Ec (ps.take i),q.1≠[.inr ps[i].2.1,.inr ps[i].2.2]:=fun q hq e=>by
    obtain⟨z,hz,rfl⟩:=List.mem_map.mp hq
    have e':z.2=ps[i].2:=by
     obtain⟨z1,z2,z3⟩:=z
     simp only[List.cons.injEq,Sum.inr.injEq,and_true]at e
     exact Prod.ext e.1 e.2
    have h1:(ps.map fun q=>q.2)[i]?=some ps[i].2:=by rw[List.getElem?_map,hi'];rfl
    refine z6 hD h1 ?_
    rw[<-List.map_take,<-e']
    exact List.mem_map.mpr ⟨z,hz,rfl⟩
   refine ex1 rfl (ex1 rfl ⟨p,ps[i].1,_,[.inr ps[i].2.1,.inr ps[i].2.2],rfl,rfl,e2,hq,hin,hne,ex1 rfl ?_⟩)
   refine Az ?_
   refine ex1 rfl ⟨⟨p,rfl,.inr (.inr ⟨_,e2⟩)⟩,ex1 rfl ⟨p,ps[i].1,_,[.inr ps[i].2.1,.inr ps[i].2.2],rfl,rfl,e2,hq,hin,hne,?_,?_⟩⟩
   ·unfold Ec;rw[List.length_map,List.length_take];omega
   ·refine⟨_,ex1 rfl ⟨s2.upd hp,?_⟩⟩
    rw[A9,take_succ hi']
    unfold Ec
    rw[List.map_append]
    rfl
  ·rintro σ H1 ⟨v2,v3,rfl,s1,e1⟩
   exact k H1 s1
end
noncomputable def la(kvs:List (Key×V))(n:Str):Addr:=match R0 kvs (.inr n)with | some (.ref l)=>l | _=>0
theorem Mq(kvs:List (Key×V))(n m:Str)(v:V):R0 (Gp kvs (Sum.inr n:Key) v) (.inr m)=if m=n then some v else R0 kvs (.inr m):=by
 rw[Of]
 by_cases e:m=n
 ·rw[if_pos e,if_pos (by rw[e])]
 ·rw[if_neg e,if_neg (fun z=>e (Sum.inr.inj z))]
theorem Af(kvs:List (Key×V))(n m:Str)(p:Addr):la (Gp kvs (.inr n) (.ref p)) m=if m=n then p else la kvs m:=by
 unfold la
 rw[Mq]
 by_cases e:m=n
 ·rw[if_pos e,if_pos e]
 ·rw[if_neg e,if_neg e]
structure DOk(H0:Hp)(kvs:List (Key×V))(ns:List Str):Prop where
 val:∀n∈ns,R0 kvs (.inr n)=some (.ref (la kvs n))
 inj:∀n∈ns,∀m∈ns,la kvs n=la kvs m->n=m
 fr:∀n∈ns,H0 (la kvs n)=none
theorem Qw{K:PySem.W.Frag}{J:It}{a:Addr}{ns:List Str}{H:Hp}{σ:St}{Q:St->Hp->Prop}(as:AsSeq J (ns.map V.str) a H)(hσ:∃v,σ = [v])(nd:ns.Nodup)(hl:ns.length<=1000){D:Addr}(hD:H D=none)
  (q:∀σ kvs H',Same H H'->H' D=some (.dK kvs)->DOk H kvs ns->(∀n∈ns,H' (la kvs n)=some (.lst []))->(∀n∈ns,la kvs n≠D)->Q σ H') :
  Ib (T4 0) Ep (Nk D (Rf 0) (Yg Sr)) J σ (upd H D (.dK [])) Q:=by
 obtain⟨v,rfl⟩:=hσ
 refine i8 as (fun i σ H1=>(∃v,σ = [v])/\∃kvs,Same H H1/\H1 D=some (.dK kvs)/\kvs.length<=i/\DOk H kvs (ns.take i)/\(∀n∈ns.take i,H1 (la kvs n)=some (.lst []))/\∀n∈ns.take i,la kvs n≠D)
  ⟨⟨v,rfl⟩,[],Same.new hD,A9,Nat.zero_le _,⟨fun n h=>by simp at h,fun n h=>by simp at h,fun n h=>by simp at h⟩,fun n h=>by simp at h,fun n h=>by simp at h⟩ (fun i σ H1 _ ⟨_,kvs,s1,_⟩=>s1.at a) ?_ ?_
 ·rintro i σ H1 x N hx ⟨⟨v,rfl⟩,kvs,s1,e1,l1,D1,c1,n1⟩ hN
  rw[List.getElem?_map]at hx
  have hi:i<ns.length:=by
   rcases Nat.lt_or_ge i ns.length with z | z
   ·exact z
   ·rw[List.getElem?_eq_none z]at hx;cases hx
  have hi':ns[i]?=some ns[i]:=List.getElem?_eq_getElem hi
  rw[hi']at hx
  cases hx
  refine Ho ?_
  refine ex1 rfl ⟨Nat.zero_le _,fun p hp=>?_⟩
  have npD:D≠p:=B0 e1 hp
  refine⟨kvs,.inr ns[i],by rw[B5 npD];exact e1,rfl,by rw[sizeLine_eq];omega,hN _ _ ⟨⟨_,rfl⟩,Gp kvs (.inr ns[i]) (.ref p),?_,A9,?_,⟨?_,?_,?_⟩,?_,?_⟩⟩
  ·exact(s1.trans (Same.new hp)).upd hD
  ·have:=j8 kvs (Sum.inr ns[i]:Key) (.ref p)
   omega
  all_goals rw[take_succ hi']
  ·intro n hn
   rw[Mq,Af]
   by_cases e:n=ns[i]
   ·rw[if_pos e,if_pos e]
   ·rw[if_neg e,if_neg e]
    rcases List.mem_append.mp hn with z | z
    ·exact D1.val n z
    ·exact absurd (List.mem_singleton.mp z) e
  ·intro n hn m hm
   rw[Af,Af]
   have old:∀k∈ns.take i ++ [ns[i]],k≠ns[i]->k∈ns.take i:=fun k hk e=>(List.mem_append.mp hk).elim id fun z=>absurd (List.mem_singleton.mp z) e
   by_cases e:n=ns[i]
   ·by_cases e':m=ns[i]
    ·exact fun _=>e.trans e'.symm
    ·rw[if_pos e,if_neg e']
     intro z
     have:=c1 m (old m hm e')
     rw[<-z,hp]at this;cases this
   ·by_cases e':m=ns[i]
    ·rw[if_neg e,if_pos e']
     intro z
     have:=c1 n (old n hn e)
     rw[z,hp]at this;cases this
    ·rw[if_neg e,if_neg e']
     exact D1.inj n (old n hn e) m (old m hm e')
  ·intro n hn
   rw[Af]
   by_cases e:n=ns[i]
   ·rw[if_pos e];exact s1.free hp
   ·rw[if_neg e]
    rcases List.mem_append.mp hn with z | z
    ·exact D1.fr n z
    ·exact absurd (List.mem_singleton.mp z) e
  ·intro n hn
   rw[Af]
   by_cases e:n=ns[i]
   ·rw[if_pos e,B5 npD.symm,A9]
   ·rw[if_neg e]
    rcases List.mem_append.mp hn with z | z
    ·rw[B5 (n1 n z),B5 (B0 (c1 n z) hp)]
     exact c1 n z
    ·exact absurd (List.mem_singleton.mp z) e
  ·intro n hn
   rw[Af]
   by_cases e:n=ns[i]
   ·rw[if_pos e];exact npD.symm
   ·rw[if_neg e]
    rcases List.mem_append.mp hn with z | z
    ·exact n1 n z
    ·exact absurd (List.mem_singleton.mp z) e
 ·rintro σ H1 ⟨_,kvs,s1,e1,l1,D1,c1,n1⟩
  rw[List.length_map]at *
  rw[List.take_length]at *
  exact q σ kvs H1 s1 e1 D1 c1 n1
noncomputable def B9(qs:List PA2)(n:Str):List Str:=(qs.filter fun q=>decide (q.2.2=n)).map fun q=>q.2.1
noncomputable def C5(qs:List PA2)(n:Str):List Str:=(qs.filter fun q=>decide (q.2.1=n)).map fun q=>q.2.2
theorem i5(qs:List PA2)(q:PA2)(n:Str):B9 (qs ++ [q]) n=B9 qs n ++(if q.2.2=n then [q.2.1]else []):=by
 unfold B9
 rw[List.filter_append,List.map_append]
 by_cases e:q.2.2=n
 ·rw[if_pos e,List.filter_cons,if_pos (decide_eq_true e)];rfl
 ·rw[if_neg e,List.filter_cons,if_neg (by simp[e])];rfl
theorem Bk(qs:List PA2)(q:PA2)(n:Str):C5 (qs ++ [q]) n=C5 qs n ++(if q.2.1=n then [q.2.2]else []):=by
 unfold C5
 rw[List.filter_append,List.map_append]
 by_cases e:q.2.1=n
 ·rw[if_pos e,List.filter_cons,if_pos (decide_eq_true e)];rfl
 ·rw[if_neg e,List.filter_cons,if_neg (by simp[e])];rfl
noncomputable def wf(a b c d:Addr):List (Str×V):=[("names",.ref a),("strikes",.ref b),("strikers_by_name",.ref c),("struck_by_name",.ref d)]
structure WebOk(ns:List Str)(qs:List PA2):Prop where
 nd:ns.Nodup
 len:ns.length<=100
 srt:ns.Pairwise leS
 mem:∀q∈qs,q.2.1∈ns/\q.2.2∈ns
 ndq:(qs.map fun q=>q.2).Nodup
 lenq:qs.length<=200
 srq:qs.Pairwise leP
structure WebAt(C:Addr)(H:Hp)(x:Addr)(ns:List Str)(qs:List PA2):Prop where
 ok:WebOk ns qs
 ex:∃dx a b c d kc kd,H x=some (.ins C dx (wf a b c d))/\H a=some (.lst (ns.map V.str))/\H b=some (.lst (J8 qs))/\(∀q∈qs,E4 H q)/\H c=some (.dK kc)/\H d=some (.dK kd) /\
  (∀n∈ns,∃l,R0 kc (.inr n)=some (.ref l)/\H l=some (.lst ((B9 qs n).map V.str)))/\∀n∈ns,∃l,R0 kd (.inr n)=some (.ref l)/\H l=some (.lst ((C5 qs n).map V.str))
section
variable{P:Program}{w:World}{K:PySem.W.Frag}{mg:Str->Option Value}{base:Heap}
theorem P8:FnScope ["self", "names", "strikes", "one", "other"] ["self", "names", "strikes"] (B4 s_Web___init__):=⟨rfl,rfl,rfl,by decide +kernel,rfl,by decide +kernel,by decide +kernel⟩
noncomputable def p9(K:PySem.W.Frag)(C:Addr):Sp:=fun vs H Q _=>∃(x dx n:Addr) (ss:List Str) (a:Addr) (ps:List PA2),vs = [.ref x,.ref n,.ref a]/\H x=some (.ins C dx [])/\H n=some (.lst (ss.map V.str))/\T2 ss /\
 H a=some (.lst (J8 ps))/\(∀q∈ps,E4 H q)/\StrkOk ss ps/\∀ns qs H',ns.Perm ss->ns.Pairwise leS->qs.Perm ps->qs.Pairwise leP->Sm [x] H H'->WebAt C H' x ns qs->Q .non H'
theorem Ff(T:Tx K mg):FnOk P w K mg base CX0 3 T.fWeb___init__ T.fdWeb___init__ ["self", "names", "strikes"] (p9 K T.CWeb):=by
 have G_check_names:FnOk P w K mg base CX0 2 T.check_names.f T.check_names.fd ["names"] (S6 K):=w4 T
 have G_check_strikes:FnOk P w K mg base CX0 2 T.check_strikes.f T.check_strikes.fd ["names", "strikes"] (P0 K):=Y3 T
 have sc:=P8
 refine T.FWeb___init__.ok P8 (fun vs H Q E h=>?_) (fun cdv A outer s H vs Q E hr h=>?_)
 ·obtain⟨x,dx,n,ss,a,ps,rfl,_⟩:=h
  rfl
 ·obtain⟨x,dx,n,ss,a,ps,rfl,hx,hS,hN,hP,hI,hO,k⟩:=h
  have hu:=Ba hr
  refine⟨_,(B2 (D8 (D9 T.check_names G_check_names (hr.mono (by decide)) (A8 (pv 1) B1)))
   (B2 (D8 (D9 T.check_strikes G_check_strikes (hr.mono (by decide)) (A8 (pv 1) (A8 (pv 2) B1))))
   (B2 (psF K (pv 0) (E2 (Bm K) T.b_sorted J6 (A8 (pv 1) B1)))
   (B2 (psF K (pv 0) (E2 (Gd K) T.b_sorted J6 (A8 (pv 2) B1)))
   (B2 (psF K (pv 0) (Jq (N':=["name"]) (cap:=[none]) (cl:=[]) (K0 trivial trivial) rfl (piL K (peF K (pv 0))) (fun _ _ _ _=>by exact⟨(pgC 0),E5,(pv 0),(M0 B1)⟩)))
   (B2 (psF K (pv 0) (Jq (N':=["name"]) (cap:=[none]) (cl:=[]) (K0 trivial trivial) rfl (piL K (peF K (pv 0))) (fun _ _ _ _=>by exact⟨(pgC 0),E5,(pv 0),(M0 B1)⟩)))
   (B3 (J9 PassesOwn.never rfl (piL K (peF K (pv 0))) (pgT K (n:=2) (D4 (C4 (i:=3) sc.nd rfl (by first | exact Or.inl rfl | exact Or.inr rfl)) (D4 (C4 (i:=4) sc.nd rfl (by first | exact Or.inl rfl | exact Or.inr rfl)) O1)))
   (B2 (D8 (Gs K PySem.F.plainAttrs_list PySem.F.slot_list_append PySem.F.type_list_append E8 (G9 hu (peF K (pv 0)) (pv 4) (fun _ _=>rfl)) (A8 (pv 3) B1)))
   (B3 (D8 (Gs K PySem.F.plainAttrs_list PySem.F.slot_list_append PySem.F.type_list_append E8 (G9 hu (peF K (pv 0)) (pv 3) (fun _ _=>rfl)) (A8 (pv 4) B1))))))))))))),?_⟩
  obtain⟨hN1,hN2,hN3⟩:=id hN
  obtain⟨hO1,hO2,hO3⟩:=id hO
  refine B8 fun Z1 hZ1=>?_
  refine ex1 rfl ⟨n,ss,rfl,SqL.of hS,hN,fun H1 s1=>?_⟩
  refine hZ1 _ _ (B8 fun Z2 hZ2=>?_)
  refine ex1 rfl (ex1 rfl ⟨n,ss,a,ps,rfl,SqL.of (s1 _ _ hS),SqL.of (s1 _ _ hP),C7 s1 hI,hO,fun H2 s2=>?_⟩)
  refine hZ2 _ _ (B8 fun Z3 hZ3=>?_)
  have s12:=s1.trans s2
  refine ex1 rfl ⟨n,ss,rfl,SqL.of (s12 _ _ hS),fun l1 ns hl1 p1 w1=>?_⟩
  have nx1:x≠l1:=B0 (s12 _ _ hx) hl1
  refine ex1 rfl ⟨x,T.CWeb,dx,[],rfl,by rw[B5 nx1];exact s12 _ _ hx,T.clWeb,T.nWeb_names,by decide,?_⟩
  have hxa:a≠x:=u5 hP hx (by intro z;cases z)
  have k3:Sm [x] H (upd (upd H2 l1 (.lst (ns.map V.str))) x (.ins T.CWeb dx (J2 "names" (.ref l1) []))):=(Sm.new s12.sm hl1).upd (by simp)
  have e3:(upd (upd H2 l1 (.lst (ns.map V.str))) x (.ins T.CWeb dx (J2 "names" (.ref l1) []))) l1=some (.lst (ns.map V.str)):=by rw[B5 nx1.symm,A9]
  generalize hH3:upd (upd H2 l1 (.lst (ns.map V.str))) x (.ins T.CWeb dx (J2 "names" (.ref l1) []))=H3 at k3 e3⊢
  refine hZ3 _ _ (B8 fun Z4 hZ4=>?_)
  have x3:H3 x=some (.ins T.CWeb dx [("names",.ref l1)]):=by rw[<-hH3,A9];rfl
  have nin:∀{b:Addr},b≠x->b∉[x]:=fun h z=>h (List.mem_singleton.mp z)
  have pin3:∀q∈ps,E4 H3 q:=fun q hq=>k3 _ _ (hI q hq) (nin (u5 (hI q hq) hx (by intro z;cases z)))
  refine ex1 rfl ⟨a,ps,rfl,SqL.of (k3 _ _ hP (nin hxa)),pin3,fun l2 qs hl2 p2 w2=>?_⟩
  have nx2:x≠l2:=B0 x3 hl2
  refine ex1 rfl ⟨x,T.CWeb,dx,[("names",.ref l1)],rfl,by rw[B5 nx2];exact x3,T.clWeb,T.nWeb_strikes,by simp,?_⟩
  have k4:Sm [x] H3 (upd (upd H3 l2 (.lst (J8 qs))) x (.ins T.CWeb dx (J2 "strikes" (.ref l2) [("names",.ref l1)]))):=(Sm.new (Sm.refl _ _) hl2).upd (by simp)
  have e4:(upd (upd H3 l2 (.lst (J8 qs))) x (.ins T.CWeb dx (J2 "strikes" (.ref l2) [("names",.ref l1)]))) l2=some (.lst (J8 qs)):=by rw[B5 nx2.symm,A9]
  have x4:(upd (upd H3 l2 (.lst (J8 qs))) x (.ins T.CWeb dx (J2 "strikes" (.ref l2) [("names",.ref l1)]))) x=some (.ins T.CWeb dx [("names",.ref l1),("strikes",.ref l2)]):=by rw[A9];rfl
  refine hZ4 _ _ ?_
  show Ve _ _ _ _ (upd (upd H3 l2 (.lst (J8 qs))) x (.ins T.CWeb dx (J2 "strikes" (.ref l2) [("names",.ref l1)])))
  generalize upd (upd H3 l2 (.lst (J8 qs))) x (.ins T.CWeb dx (J2 "strikes" (.ref l2) [("names",.ref l1)]))=H4 at k4 e4 x4⊢
  have f4:H4 l1=some (.lst (ns.map V.str)):=k4 _ _ e3 (nin nx1.symm)
  have pin4:∀q∈qs,E4 H4 q:=fun q hq=>k4 _ _ (pin3 q (p2.mem_iff.mp hq)) (nin (u5 (pin3 q (p2.mem_iff.mp hq)) x3 (by intro z;cases z)))
  have ndn:ns.Nodup:=p1.nodup_iff.mpr hN2
  have lnn:ns.length<=1000:=by rw[p1.length_eq];omega
  refine B8 fun Z5 hZ5=>?_
  refine ex1 rfl ⟨x,T.CWeb,dx,_,ex1 rfl ⟨x4,T.clWeb,T.nWeb_names,rfl,l1,rfl,⟨_,SqL.of f4⟩,fun c hc=>Qw (K:=K) (asL (SqL.of f4)) ⟨_,rfl⟩ ndn lnn hc fun _ kc H5 s5 e5 D5 c5 n5=>?_⟩⟩
  have x5:=s5 _ _ x4
  refine ex1 rfl ⟨x,T.CWeb,dx,ex1 rfl ⟨x5,T.clWeb,T.nWeb_strikers_by_name,by simp,?_⟩⟩
  have k6:Sm [x] H5 (upd H5 x (.ins T.CWeb dx (J2 "strikers_by_name" (.ref c) [("names",.ref l1),("strikes",.ref l2)]))):=(Sm.refl _ _).upd (by simp)
  have x6:(upd H5 x (.ins T.CWeb dx (J2 "strikers_by_name" (.ref c) [("names",.ref l1),("strikes",.ref l2)]))) x=some (.ins T.CWeb dx [("names",.ref l1),("strikes",.ref l2),("strikers_by_name",.ref c)]):=by rw[A9];rfl
  generalize upd H5 x (.ins T.CWeb dx (J2 "strikers_by_name" (.ref c) [("names",.ref l1),("strikes",.ref l2)]))=H6 at k6 x6⊢
  refine hZ5 _ _ (B8 fun Z6 hZ6=>?_)
  have kk6:∀{b:Addr} {o:HO},H4 b=some o->b≠x->H6 b=some o:=fun e hb=>k6 _ _ (s5 _ _ e) (nin hb)
  have f6:=kk6 f4 nx1.symm
  have g6:=kk6 e4 nx2.symm
  have c6:H6 c=some (.dK kc):=k6 _ _ e5 (nin (B0 x4 hc).symm)
  have cl6:∀n∈ns,H6 (la kc n)=some (.lst []):=fun n hn=>k6 _ _ (c5 n hn) (nin (B0 x4 (D5.fr n hn)).symm)
  refine ex1 rfl ⟨x,T.CWeb,dx,_,ex1 rfl ⟨x6,T.clWeb,T.nWeb_names,rfl,l1,rfl,⟨_,SqL.of f6⟩,fun d hd=>Qw (K:=K) (asL (SqL.of f6)) ⟨_,rfl⟩ ndn lnn hd fun _ kd H7 s7 e7 D7 c7 n7=>?_⟩⟩
  have x7:=s7 _ _ x6
  refine ex1 rfl ⟨x,T.CWeb,dx,ex1 rfl ⟨x7,T.clWeb,T.nWeb_struck_by_name,by simp,?_⟩⟩
  have k8:Sm [x] H7 (upd H7 x (.ins T.CWeb dx (J2 "struck_by_name" (.ref d) [("names",.ref l1),("strikes",.ref l2),("strikers_by_name",.ref c)]))):=(Sm.refl _ _).upd (by simp)
  have x8:(upd H7 x (.ins T.CWeb dx (J2 "struck_by_name" (.ref d) [("names",.ref l1),("strikes",.ref l2),("strikers_by_name",.ref c)]))) x=some (.ins T.CWeb dx (wf l1 l2 c d)):=by rw[A9];rfl
  generalize upd H7 x (.ins T.CWeb dx (J2 "struck_by_name" (.ref d) [("names",.ref l1),("strikes",.ref l2),("strikers_by_name",.ref c)]))=H8 at k8 x8⊢
  refine hZ6 _ _ ?_
  have kk8:∀{b:Addr} {o:HO},H6 b=some o->b≠x->H8 b=some o:=fun e hb=>k8 _ _ (s7 _ _ e) (nin hb)
  have f8:=kk8 f6 nx1.symm
  have g8:=kk8 g6 nx2.symm
  have c8:=kk8 c6 (B0 x4 hc).symm
  have d8:H8 d=some (.dK kd):=k8 _ _ e7 (nin (B0 x6 hd).symm)
  have cl8:∀n∈ns,H8 (la kc n)=some (.lst []):=fun n hn=>kk8 (cl6 n hn) (B0 x4 (D5.fr n hn)).symm
  have dl8:∀n∈ns,H8 (la kd n)=some (.lst []):=fun n hn=>k8 _ _ (c7 n hn) (nin (B0 x6 (D7.fr n hn)).symm)
  have pin8:∀q∈qs,E4 H8 q:=fun q hq=>kk8 (kk6 (pin4 q hq) (u5 (pin4 q hq) x4 (by intro z;cases z))) (u5 (pin4 q hq) x4 (by intro z;cases z))
  have dif:∀n∈ns,∀m∈ns,la kc n≠la kd m:=fun n hn m hm=>B0 (cl6 n hn) (D7.fr m hm)
  have old4:∀{b:Addr} {o:HO},H4 b=some o->b≠x->(∀n∈ns,b≠la kc n)/\∀n∈ns,b≠la kd n:=fun e hb=>⟨fun n hn=>B0 e (D5.fr n hn),fun n hn=>B0 (kk6 e hb) (D7.fr n hn)⟩
  have kall:Sm [x] H H8:=fun b o e hb=>by
   have hb':b≠x:=fun z=>hb (by simp[z])
   exact kk8 (kk6 (k4 _ _ (k3 _ _ e hb) hb) hb') hb'
  have odif:∀{b:Addr} {o:HO},H b=some o->b≠x->(∀n∈ns,b≠la kc n)/\∀n∈ns,b≠la kd n:=fun e hb=>old4 (k4 _ _ (k3 _ _ e (nin hb)) (nin hb)) hb
  have xdif:(∀n∈ns,x≠la kc n)/\∀n∈ns,x≠la kd n:=⟨fun n hn=>B0 x4 (D5.fr n hn),fun n hn=>B0 x6 (D7.fr n hn)⟩
  have cdif:(∀n∈ns,c≠la kc n)/\∀n∈ns,c≠la kd n:=⟨fun n hn=>(n5 n hn).symm,fun n hn=>B0 c6 (D7.fr n hn)⟩
  have ddif:(∀n∈ns,d≠la kc n)/\∀n∈ns,d≠la kd n:=⟨fun n hn=>(B0 (cl6 n hn) hd).symm,fun n hn=>(n7 n hn).symm⟩
  refine⟨_,rfl,x,T.CWeb,dx,_,_,rfl,x8,T.clWeb,T.nWeb_strikes,rfl,l2,rfl,⟨_,SqL.of g8⟩,T7 (asL (SqL.of g8)) (fun i σ H9=>(∃v3 v4,σ = [some (.ref x),some (.ref n),some (.ref a),v3,v4]) /\
   (∀b o,H8 b=some o->((∀n∈ns,b≠la kc n)/\∀n∈ns,b≠la kd n)->H9 b=some o)/\(∀n∈ns,H9 (la kc n)=some (.lst ((B9 (qs.take i) n).map V.str)))/\∀n∈ns,H9 (la kd n)=some (.lst ((C5 (qs.take i) n).map V.str)))
   ⟨⟨_,_,rfl⟩,fun b o e _=>e,cl8,dl8⟩ ?_ ?_ ?_⟩
  ·rintro i σ H9 _ ⟨_,h1,_⟩ o e
   exact h1 _ _ e (old4 e4 nx2.symm)
  ·rintro i σ H9 v hv ⟨⟨v3,v4,rfl⟩,h1,h2,h3⟩ D1 hD1 _
   unfold J8 at hv
   rw[List.getElem?_map]at hv
   cases hq:qs[i]? with
   | none=>rw[hq]at hv;cases hv
   | some q =>
    rw[hq]at hv
    cases hv
    have hm:q∈qs:=List.mem_of_getElem? hq
    have hq9:E4 H9 q:=h1 _ _ (pin8 q hm) (old4 (pin4 q hm) (u5 (pin4 q hm) x4 (by intro z;cases z)))
    obtain⟨m1,m2⟩:=hO1 q (p2.mem_iff.mp hm)
    have m1:q.2.1∈ns:=p1.mem_iff.mpr m1
    have m2:q.2.2∈ns:=p1.mem_iff.mpr m2
    have hlen:∀l:List PA2,l.length<=200->∀n,(B9 l n).length<=200/\(C5 l n).length<=200:=fun l hl n=>by
     unfold B9 C5
     rw[List.length_map,List.length_map]
     exact⟨Nat.le_trans (List.length_filter_le ..) hl,Nat.le_trans (List.length_filter_le ..) hl⟩
    have hl200:(qs.take i).length<=200:=by
     rw[List.length_take]
     have:=p2.length_eq
     omega
    have x9:H9 x=some (.ins T.CWeb dx (wf l1 l2 c d)):=h1 _ _ x8 xdif
    refine⟨q.1,ex1 rfl ⟨SqT.of hq9,rfl,_,ex1 rfl (B7 rfl rfl ?_)⟩⟩
    refine ex1 rfl ⟨x,T.CWeb,dx,_,ex1 rfl ⟨x9,T.clWeb,T.nWeb_strikers_by_name,rfl,ex1 rfl ⟨c,.ref (la kc q.2.2),rfl,by rw[<-D5.val _ m2];exact DGet.k (k:=Sum.inr q.2.2) (h1 _ _ c8 cdif),.inl ⟨rfl,_,SqL.of (h2 _ m2)⟩,ex1 rfl ⟨_,B7 rfl rfl ⟨h2 _ m2,?_,?_⟩⟩⟩⟩⟩
    ·rw[List.length_map,sizeLine_eq]
     have:=(hlen _ hl200 q.2.2).1
     omega
    have x10:(upd H9 (la kc q.2.2) (.lst ((B9 (qs.take i) q.2.2).map V.str ++ [.str q.2.1]))) x=some (.ins T.CWeb dx (wf l1 l2 c d)):=by rw[B5 (xdif.1 _ m2)];exact x9
    have d10:(upd H9 (la kc q.2.2) (.lst ((B9 (qs.take i) q.2.2).map V.str ++ [.str q.2.1]))) d=some (.dK kd):=by rw[B5 (ddif.1 _ m2)];exact h1 _ _ d8 ddif
    have l10:(upd H9 (la kc q.2.2) (.lst ((B9 (qs.take i) q.2.2).map V.str ++ [.str q.2.1]))) (la kd q.2.1)=some (.lst ((C5 (qs.take i) q.2.1).map V.str)):=by rw[B5 (dif _ m2 _ m1).symm];exact h3 _ m1
    refine ex1 rfl ⟨x,T.CWeb,dx,_,ex1 rfl ⟨x10,T.clWeb,T.nWeb_struck_by_name,rfl,ex1 rfl ⟨d,.ref (la kd q.2.1),rfl,by rw[<-D7.val _ m1];exact DGet.k (k:=Sum.inr q.2.1) d10,.inl ⟨rfl,_,SqL.of l10⟩,ex1 rfl ⟨_,B7 rfl rfl ⟨l10,?_,?_⟩⟩⟩⟩⟩
    ·rw[List.length_map,sizeLine_eq]
     have:=(hlen _ hl200 q.2.1).2
     omega
    refine hD1 _ _ ⟨⟨_,_,rfl⟩,fun b o e hb=>?_,fun m hm=>?_,fun m hm=>?_⟩
    ·rw[B5 (hb.2 _ m1),B5 (hb.1 _ m2)]
     exact h1 b o e hb
    ·rw[B5 (dif m hm _ m1),take_succ hq,i5]
     by_cases e:q.2.2=m
     ·rw[<-e,A9,if_pos rfl,List.map_append];rfl
     ·rw[if_neg e,List.append_nil,B5 (fun z=>e (D5.inj _ hm _ m2 z).symm)]
      exact h2 m hm
    ·rw[take_succ hq,Bk]
     by_cases e:q.2.1=m
     ·rw[<-e,A9,if_pos rfl,List.map_append];rfl
     ·rw[if_neg e,List.append_nil,B5 (fun z=>e (D7.inj _ hm _ m1 z).symm),B5 (dif _ m2 _ hm).symm]
      exact h3 m hm
  ·rintro σ H9 ⟨_,h1,h2,h3⟩
   have hlq:(J8 qs).length=qs.length:=by unfold J8;rw[List.length_map]
   rw[hlq,List.take_length]at h2 h3
   refine k ns qs H9 p1 w1 p2 w2 (fun b o e hb=>?_) ⟨⟨ndn,by rw[p1.length_eq];exact hN3,w1,fun q hq=>⟨p1.mem_iff.mpr (hO1 q (p2.mem_iff.mp hq)).1,p1.mem_iff.mpr (hO1 q (p2.mem_iff.mp hq)).2⟩,(p2.map _).nodup_iff.mpr hO2,by rw[p2.length_eq];exact hO3,w2⟩,dx,l1,l2,c,d,kc,kd,h1 _ _ x8 xdif,h1 _ _ f8 (old4 f4 nx1.symm),h1 _ _ g8 (old4 e4 nx2.symm),fun q hm=>h1 _ _ (pin8 q hm) (old4 (pin4 q hm) (u5 (pin4 q hm) x4 (by intro z;cases z))),h1 _ _ c8 cdif,h1 _ _ d8 ddif,fun n hn=>⟨_,D5.val n hn,h2 n hn⟩,fun n hn=>⟨_,D7.val n hn,h3 n hn⟩⟩
   have hb':b≠x:=fun z=>hb (by simp[z])
   exact h1 _ _ (kall b o e hb) (odif e hb')
end
theorem WebAt.same{C:Addr}{H H':Hp}{x:Addr}{ns:List Str}{qs:List PA2}(h:WebAt C H x ns qs)(s:Same H H'):WebAt C H' x ns qs:=by
 obtain⟨ok,dx,a,b,c,d,kc,kd,e1,e2,e3,e4,e5,e6,e7,e8⟩:=h
 exact⟨ok,dx,a,b,c,d,kc,kd,s _ _ e1,s _ _ e2,s _ _ e3,C7 s e4,s _ _ e5,s _ _ e6,fun n hn=>let⟨l,v,e⟩:=e7 n hn;⟨l,v,s _ _ e⟩,fun n hn=>let⟨l,v,e⟩:=e8 n hn;⟨l,v,s _ _ e⟩⟩
section
variable{P:Program}{w:World}{K:PySem.W.Frag}{mg:Str->Option Value}{base:Heap}
theorem Y4:FnScope ["self"] ["self"] (B4 s_Web_all_names):=⟨rfl,rfl,rfl,by decide +kernel,rfl,by decide +kernel,by decide +kernel⟩
noncomputable def Q2(C:Addr):Sp:=fun vs H Q _=>∃(x:Addr) (ns:List Str) (qs:List PA2),vs = [.ref x]/\WebAt C H x ns qs/\∀l,H l=none->Q (.ref l) (upd H l (.lst (ns.map V.str)))
theorem O7(T:Tx K mg):FnOk P w K mg base CX0 1 T.mWeb_all_names.f T.mWeb_all_names.fd ["self"] (Q2 T.CWeb):=by
 refine T.mWeb_all_names.F.ok Y4 (fun vs H Q E h=>?_) (fun cdv A outer s H vs Q E hr h=>?_)
 ·obtain⟨x,ns,qs,rfl,_⟩:=h
  rfl
 ·obtain⟨x,ns,qs,rfl,⟨ok,dx,a,b,c,d,kc,kd,e1,e2,e3,e4,e5,e6,e7,e8⟩,k⟩:=h
  refine⟨_,(B3 (C1 (Ik (l7 K) T.b_list T8 (A8 (peF K (pv 0)) B1)))),?_⟩
  exact⟨_,rfl,x,T.CWeb,dx,_,_,rfl,e1,T.clWeb,T.nWeb_names,rfl,a,_,rfl,.inl (SqL.of e2),k⟩
theorem V5:FnScope ["self"] ["self"] (B4 s_Web_all_strikes):=⟨rfl,rfl,rfl,by decide +kernel,rfl,by decide +kernel,by decide +kernel⟩
noncomputable def S7(C:Addr):Sp:=fun vs H Q _=>∃(x:Addr) (ns:List Str) (qs:List PA2),vs = [.ref x]/\WebAt C H x ns qs/\∀l,H l=none->Q (.ref l) (upd H l (.lst (J8 qs)))
theorem U2(T:Tx K mg):FnOk P w K mg base CX0 1 T.mWeb_all_strikes.f T.mWeb_all_strikes.fd ["self"] (S7 T.CWeb):=by
 refine T.mWeb_all_strikes.F.ok V5 (fun vs H Q E h=>?_) (fun cdv A outer s H vs Q E hr h=>?_)
 ·obtain⟨x,ns,qs,rfl,_⟩:=h
  rfl
 ·obtain⟨x,ns,qs,rfl,⟨ok,dx,a,b,c,d,kc,kd,e1,e2,e3,e4,e5,e6,e7,e8⟩,k⟩:=h
  refine⟨_,(B3 (C1 (Ik (l7 K) T.b_list T8 (A8 (peF K (pv 0)) B1)))),?_⟩
  exact⟨_,rfl,x,T.CWeb,dx,_,_,rfl,e1,T.clWeb,T.nWeb_strikes,rfl,b,_,rfl,.inl (SqL.of e3),k⟩
theorem Y5:FnScope ["self", "name"] ["self", "name"] (B4 s_Web_check_has):=⟨rfl,rfl,rfl,by decide +kernel,rfl,by decide +kernel,by decide +kernel⟩
noncomputable def P9(C:Addr):Sp:=fun vs H Q _=>∃(x:Addr) (n:Str) (ns:List Str) (qs:List PA2),vs = [.ref x,.str n]/\WebAt C H x ns qs/\n∈ns/\Q .non H
theorem O9(T:Tx K mg):FnOk P w K mg base CX0 1 T.mWeb_check_has.f T.mWeb_check_has.fd ["self", "name"] (P9 T.CWeb):=by
 refine T.mWeb_check_has.F.ok Y5 (fun vs H Q E h=>?_) (fun cdv A outer s H vs Q E hr h=>?_)
 ·obtain⟨x,n,ns,qs,rfl,_⟩:=h
  rfl
 ·obtain⟨x,n,ns,qs,rfl,⟨ok,dx,a,b,c,d,kc,kd,e1,e2,e3,e4,e5,e6,e7,e8⟩,hn,k⟩:=h
  refine⟨_,(B3 (J7 (C8 (Oi K) (pv 1) (peF K (pv 0)) rfl) (B3 Bq) D0)),?_⟩
  refine ex1 rfl (ex1 rfl ⟨x,T.CWeb,dx,_,ex1 rfl ⟨e1,T.clWeb,T.nWeb_names,rfl,Ia (.inl (SqL.of e2)) ⟨_,rfl,?_⟩⟩⟩)
  rw[decide_eq_true hn]
  exact Az k
theorem Bo:FnScope ["self", "name"] ["self", "name"] (B4 s_Web_struck):=⟨rfl,rfl,rfl,by decide +kernel,rfl,by decide +kernel,by decide +kernel⟩
noncomputable def Dy(C:Addr):Sp:=fun vs H Q _=>∃(x:Addr) (n:Str) (ns:List Str) (qs:List PA2),vs = [.ref x,.str n]/\WebAt C H x ns qs/\n∈ns/\∀l,H l=none->Q (.ref l) (upd H l (.lst ((C5 qs n).map V.str)))
theorem Ap(T:Tx K mg):FnOk P w K mg base CX0 2 T.mWeb_struck.f T.mWeb_struck.fd ["self", "name"] (Dy T.CWeb):=by
 have G_Web_check_has:FnOk P w K mg base CX0 1 T.mWeb_check_has.f T.mWeb_check_has.fd ["self", "name"] (P9 T.CWeb):=O9 T
 refine T.mWeb_struck.F.ok Bo (fun vs H Q E h=>?_) (fun cdv A outer s H vs Q E hr h=>?_)
 ·obtain⟨x,n,ns,qs,rfl,_⟩:=h
  rfl
 ·obtain⟨x,n,ns,qs,rfl,hW,hn,k⟩:=h
  have hu:=Ba hr
  obtain⟨ok,dx,a,b,c,d,kc,kd,e1,e2,e3,e4,e5,e6,e7,e8⟩:=id hW
  refine⟨_,(B2 (D8 (E9 (pv 0) T.clWeb T.mWeb_check_has.m G_Web_check_has (hr.mono (by decide)) T.mWeb_check_has.b .nil K5 (A8 (pv 1) B1)))
   (B3 (C1 (Ik (l7 K) T.b_list T8 (A8 (G9 hu (peF K (pv 0)) (pv 1) (fun _ _=>rfl)) B1))))),?_⟩
  refine ex1 rfl ⟨x,dx,ex1 rfl ⟨e1,rfl,ex1 rfl ⟨x,n,ns,qs,rfl,hW,hn,?_⟩⟩⟩
  obtain⟨l,v,e⟩:=e8 n hn
  exact⟨_,rfl,x,T.CWeb,dx,_,_,rfl,e1,T.clWeb,T.nWeb_struck_by_name,rfl,_,rfl,d,_,rfl,by rw[<-v];exact DGet.k (k:=Sum.inr n) e6,l,_,rfl,.inl (SqL.of e),k⟩
theorem i7:FnScope ["self", "name"] ["self", "name"] (B4 s_Web_strikers):=⟨rfl,rfl,rfl,by decide +kernel,rfl,by decide +kernel,by decide +kernel⟩
noncomputable def d6(C:Addr):Sp:=fun vs H Q _=>∃(x:Addr) (n:Str) (ns:List Str) (qs:List PA2),vs = [.ref x,.str n]/\WebAt C H x ns qs/\n∈ns/\∀l,H l=none->Q (.ref l) (upd H l (.lst ((B9 qs n).map V.str)))
theorem n0(T:Tx K mg):FnOk P w K mg base CX0 2 T.mWeb_strikers.f T.mWeb_strikers.fd ["self", "name"] (d6 T.CWeb):=by
 have G_Web_check_has:FnOk P w K mg base CX0 1 T.mWeb_check_has.f T.mWeb_check_has.fd ["self", "name"] (P9 T.CWeb):=O9 T
 refine T.mWeb_strikers.F.ok i7 (fun vs H Q E h=>?_) (fun cdv A outer s H vs Q E hr h=>?_)
 ·obtain⟨x,n,ns,qs,rfl,_⟩:=h
  rfl
 ·obtain⟨x,n,ns,qs,rfl,hW,hn,k⟩:=h
  have hu:=Ba hr
  obtain⟨ok,dx,a,b,c,d,kc,kd,e1,e2,e3,e4,e5,e6,e7,e8⟩:=id hW
  refine⟨_,(B2 (D8 (E9 (pv 0) T.clWeb T.mWeb_check_has.m G_Web_check_has (hr.mono (by decide)) T.mWeb_check_has.b .nil K5 (A8 (pv 1) B1)))
   (B3 (C1 (Ik (l7 K) T.b_list T8 (A8 (G9 hu (peF K (pv 0)) (pv 1) (fun _ _=>rfl)) B1))))),?_⟩
  refine ex1 rfl ⟨x,dx,ex1 rfl ⟨e1,rfl,ex1 rfl ⟨x,n,ns,qs,rfl,hW,hn,?_⟩⟩⟩
  obtain⟨l,v,e⟩:=e7 n hn
  exact⟨_,rfl,x,T.CWeb,dx,_,_,rfl,e1,T.clWeb,T.nWeb_strikers_by_name,rfl,_,rfl,c,_,rfl,by rw[<-v];exact DGet.k (k:=Sum.inr n) e5,l,_,rfl,.inl (SqL.of e),k⟩
theorem y0:FnScope ["_law_cell", "_law_k", "_law_m"] ["_law_cell", "_law_k"] (B4 s_law_mix):=⟨rfl,rfl,rfl,by decide +kernel,rfl,by decide +kernel,by decide +kernel⟩
noncomputable def Ps:Sp:=fun vs H Q _=>∃(cell k:Int),vs = [.int cell,.int k]/\0<=k/\k<=2000000/\∀m:Int,0<=m->m<1999999973->Q (.int m) H
theorem Iu(T:Tx K mg):FnOk P w K mg base CX0 1 T.law_mix.f T.law_mix.fd ["_law_cell", "_law_k"] Ps:=by
 have sc:=y0
 refine T.law_mix.F.ok y0 (fun vs H Q E h=>?_) (fun cdv A outer s H vs Q E hr h=>?_)
 ·obtain⟨c,k,rfl,_⟩:=h
  rfl
 ·obtain⟨cell,k,rfl,k0,k1,q⟩:=h
  refine⟨_,(B2 (C6 (i:=2) sc.nd rfl (by first | exact Or.inl rfl | exact Or.inr rfl) (C2 Dg (C2 Ag (C2 h9 (C2 h9 (C2 Dg (pv 0) B6) (C2 Ag (C2 Ag (pv 1) (pv 1)) B6)) B6) B6) B6))
   (B3 (C1 (C2 Dg (C2 Ag (pv 2) (pv 2)) B6)))),?_⟩
  refine ex1 rfl (B7 rfl rfl ⟨(show(0:Int)<2147483629 by decide),ex1 rfl (ex1 rfl (B7 rfl rfl ⟨.inl ⟨by omega,by omega⟩,B7 rfl rfl ⟨.inr ⟨by decide,by decide⟩,B7 rfl rfl (B7 rfl rfl (B7 rfl rfl ⟨.inr ⟨by decide,by decide⟩,B7 rfl rfl ⟨(show(0:Int)<2147483647 by decide),?_⟩⟩))⟩⟩))⟩)
  generalize hm:(cell % 2147483629+k*k*7919+11)*48271 % 2147483647=m
  have h1:0<=m:=by rw[<-hm];exact Int.emod_nonneg _ (by decide)
  have h2:m<2147483647:=by rw[<-hm];exact Int.emod_lt_of_pos _ (by decide)
  exact⟨_,rfl,_,rfl,_,_,rfl,rfl,.inl ⟨by omega,by omega⟩,_,_,rfl,rfl,(show(0:Int)<1999999973 by decide),q _ (Int.emod_nonneg _ (by decide)) (Int.emod_lt_of_pos _ (by decide))⟩
noncomputable def LeftAt(H:Hp)(p:Addr)(c:Int):Prop:=∃a b:Int,H p=some (.lst [.int a,.int b,.int c])/\0<=c
theorem LeftAt.isS{H:Hp}{p:Addr}{c:Int}(h:LeftAt H p c):(H p).isSome=true:=by
 obtain⟨_,_,e,_⟩:=h
 rw[e];rfl
theorem LeftAt.get{H:Hp}{p:Addr}{c:Int}(h:LeftAt H p c):H p=some ((H p).get h.isS):=(Option.some_get _).symm
theorem LeftAt.cast{H:Hp}{p:Addr}{c c':Int}(h:LeftAt H p c)(e:c=c'):LeftAt H p c':=e▸h
theorem LeftAt.upd{H:Hp}{p a:Addr}{c:Int}{o:HO}(h:LeftAt H p c)(n:p≠a):LeftAt (L2.upd H a o) p c:=by
 obtain⟨x,y,e,z⟩:=h
 exact⟨x,y,by rw[B5 n];exact e,z⟩
theorem LeftAt.same{H H':Hp}{p:Addr}{c:Int}(h:LeftAt H p c)(s:Same H H'):LeftAt H' p c:=by
 obtain⟨x,y,e,z⟩:=h
 exact⟨x,y,s _ _ e,z⟩
theorem Xs(c:Bool):-(2^64) <(if c=true then(1:Int)else 0)/\(if c=true then(1:Int)else 0)<2^64:=by cases c<;>exact⟨by decide,by decide⟩
theorem j9:FnScope ["_law_script", "_law_k", "_law_cell"] ["_law_script", "_law_k"] (B4 s_law_left):=⟨rfl,rfl,rfl,by decide +kernel,rfl,by decide +kernel,by decide +kernel⟩
noncomputable def Ma(K:PySem.W.Frag):Sp:=fun vs H Q _=>∃(p:Addr) (xs:List Int) (k:Nat),vs = [.ref p,.int (k:Int)]/\SqL K H p (xs.map V.int)/\k<=1000/\∀l H',H l=none->Same H H'->LeftAt H' l 0->Q (.ref l) H'
theorem Ex(T:Tx K mg):FnOk P w K mg base CX0 1 T.law_left.f T.law_left.fd ["_law_script", "_law_k"] (Ma K):=by
 have sc:=j9
 refine T.law_left.F.ok j9 (fun vs H Q E h=>?_) (fun cdv A outer s H vs Q E hr h=>?_)
 ·obtain⟨p,xs,k,rfl,_⟩:=h
  rfl
 ·obtain⟨p,xs,k,rfl,hS,hk,q⟩:=h
  refine⟨_,(B2 (C6 (i:=2) sc.nd rfl (by first | exact Or.inl rfl | exact Or.inr rfl) (Ox (C8 Wk (pv 1) (E2 (Q6 K) T.b_len O8 (A8 (pv 0) B1)) (E3 _)) (K4 (ixL K) (pv 0) (pv 1) (fun _ _=>rfl)) B6))
   (B3 (C1 (M0 (A8 (C2 Ag (E2 Hc T.b_abs Po (A8 (pv 2) B1)) (Ik Lq T.b_int Tu (A8 (O3 Xp (E2 Hc T.b_abs Po (A8 (pv 2) B1)) (C2 Vs B6 B6) (E3 _)) B1))) (A8 (C2 h9 (pv 2) (C2 Ag B6 (pv 1))) (A8 B6 B1))))))),?_⟩
  refine ex1 rfl (ex1 rfl (B7 (a:=p) rfl (.inl hS) (B7 rfl rfl (ex1 rfl ?_))))
  have at1:decide ((k:Int) <((xs.map V.int).length:Int))=true->∃c:Int,atI (xs.map V.int) (k:Int)=some (.int c):=fun c1=>by
   have c1:(k:Int) <((xs.map V.int).length:Int):=of_decide_eq_true c1
   rw[List.length_map]at c1
   have hk':xs[k]?=some (xs[k]'(by omega)):=List.getElem?_eq_getElem (by omega)
   exact⟨_,Ay (by rw[List.getElem?_map,hk'];rfl)⟩
  refine V8 (fun c1=>?_) (fun c1=>?_)
  ·obtain⟨c,hc⟩:=at1 c1
   refine ex1 rfl (ex1 rfl ⟨p,_,B7 rfl rfl ⟨hS,hc,?_⟩⟩)
   (repeat first | refine⟨_,rfl,?_⟩ | refine⟨_,_,rfl,rfl,?_⟩)
   refine⟨⟨by decide,by decide,by decide⟩,?_⟩
   (repeat first | refine⟨_,rfl,?_⟩ | refine⟨_,_,rfl,rfl,?_⟩)
   refine .inr ⟨_,rfl,?_⟩
   (repeat first | refine⟨_,rfl,?_⟩ | refine⟨_,_,rfl,rfl,?_⟩)
   refine⟨.inr ?_,?_⟩
   ·exact Xs _
   (repeat first | refine⟨_,rfl,?_⟩ | refine⟨_,_,rfl,rfl,?_⟩)
   refine⟨.inl ⟨by decide,by decide⟩,?_⟩
   (repeat first | refine⟨_,rfl,?_⟩ | refine⟨_,_,rfl,rfl,?_⟩)
   exact⟨by show 3<=sizeLine;decide,fun l hl=>q l _ hl (Same.new hl) ⟨_,_,A9,by decide⟩⟩
  ·(repeat first | refine⟨_,rfl,?_⟩ | refine⟨_,_,rfl,rfl,?_⟩)
   refine⟨⟨by decide,by decide,by decide⟩,?_⟩
   (repeat first | refine⟨_,rfl,?_⟩ | refine⟨_,_,rfl,rfl,?_⟩)
   refine .inr ⟨_,rfl,?_⟩
   (repeat first | refine⟨_,rfl,?_⟩ | refine⟨_,_,rfl,rfl,?_⟩)
   refine⟨.inr ?_,?_⟩
   ·exact Xs _
   (repeat first | refine⟨_,rfl,?_⟩ | refine⟨_,_,rfl,rfl,?_⟩)
   refine⟨.inl ⟨by decide,by decide⟩,?_⟩
   (repeat first | refine⟨_,rfl,?_⟩ | refine⟨_,_,rfl,rfl,?_⟩)
   exact⟨by show 3<=sizeLine;decide,fun l hl=>q l _ hl (Same.new hl) ⟨_,_,A9,by decide⟩⟩
theorem t8:FnScope ["_law_left_here", "_law_many", "_law_digit"] ["_law_left_here", "_law_many"] (B4 s_law_pick):=⟨rfl,rfl,rfl,by decide +kernel,rfl,by decide +kernel,by decide +kernel⟩
noncomputable def Br:Sp:=fun vs H Q _=>∃(p:Addr) (c many:Int),vs = [.ref p,.int many]/\LeftAt H p c/\c<=1000000/\0<many/\many<=1000000 /\
 ∀(d:Nat) H',(d:Int)<many->Sm [p] H H'->LeftAt H' p (c+1)->Q (.int (d:Int)) H'
theorem S9(T:Tx K mg):FnOk P w K mg base CX0 2 T.law_pick.f T.law_pick.fd ["_law_left_here", "_law_many"] Br:=by
 have G_law_mix:FnOk P w K mg base CX0 1 T.law_mix.f T.law_mix.fd ["_law_cell", "_law_k"] Ps:=Iu T
 have sc:=t8
 refine T.law_pick.F.ok t8 (fun vs H Q E h=>?_) (fun cdv A outer s H vs Q E hr h=>?_)
 ·obtain⟨p,c,m,rfl,_⟩:=h
  rfl
 ·obtain⟨p,c,many,rfl,⟨a,b,e,c0⟩,c1,m0,m1,q⟩:=h
  refine⟨_,(B2 (Z9 (C2 h9 (K4 (ixL K) (pv 0) B6 (fun _ _=>rfl)) B6) (Ge (pv 0) B6 Y9))
   (B2 (J7 (C8 Wn (K4 (ixL K) (pv 0) B6 (fun _ _=>rfl)) B6 (E3 _)) (B2 (C6 (i:=2) sc.nd rfl (by first | exact Or.inl rfl | exact Or.inr rfl) (C2 Dg (K4 (ixL K) (pv 0) B6 (fun _ _=>rfl)) (pv 1)))
   (B2 (Z9 (C2 Lf (K4 (ixL K) (pv 0) B6 (fun _ _=>rfl)) (pv 1)) (Ge (pv 0) B6 Y9))
   (B3 (C1 (pv 2))))) D0)
   (B3 (C1 (C2 Dg (C2 Lf (D9 T.law_mix G_law_mix (hr.mono (by decide)) (A8 (D9 T.law_mix G_law_mix (hr.mono (by decide)) (A8 (K4 (ixL K) (pv 0) B6 (fun _ _=>rfl)) (A8 (K4 (ixL K) (pv 0) B6 (fun _ _=>rfl)) B1))) (A8 (C2 h9 (K4 (ixL K) (pv 0) B6 (fun _ _=>rfl)) B6) B1))) B6) (pv 1)))))),?_⟩
  have nn:∀d:Int,0<=d->d<many->∀a' b',Q (.int d) (upd (upd H p (.lst [.int a,.int b,.int (c+1)])) p (.lst [.int a',.int b',.int (c+1)]))/\Q (.int d) (upd H p (.lst [.int a',.int b',.int (c+1)])):=fun d h0 h1 a' b'=>by
   obtain⟨n,rfl⟩:=Int.eq_ofNat_of_zero_le h0
   exact⟨q n _ h1 (((Sm.refl _ _).upd (by simp)).upd (by simp)) ⟨a',b',A9,by omega⟩,q n _ h1 ((Sm.refl _ _).upd (by simp)) ⟨a',b',A9,by omega⟩⟩
  refine ex1 rfl ⟨p,_,B7 rfl rfl ⟨SqL.of e,rfl,B7 rfl rfl (ex1 rfl ⟨p,_,_,2,rfl,rfl,e,rfl,?_⟩)⟩⟩
  refine ex1 rfl ⟨p,_,B7 rfl rfl ⟨SqL.of A9,rfl,B7 rfl rfl (ex1 rfl ?_)⟩⟩
  refine V8 (fun h1=>?_) (fun h1=>?_)
  ·have h1:(0:Int)<a:=of_decide_eq_true h1
   refine ex1 rfl ⟨p,_,B7 rfl rfl ⟨SqL.of A9,rfl,ex1 rfl (B7 rfl rfl ⟨m0,?_⟩)⟩⟩
   refine ex1 rfl ⟨p,_,B7 rfl rfl ⟨SqL.of A9,rfl,ex1 rfl (B7 rfl rfl ⟨⟨m0,by omega⟩,ex1 rfl ⟨p,_,_,0,rfl,rfl,A9,rfl,?_⟩⟩)⟩⟩
   exact⟨_,rfl,(nn _ (Int.emod_nonneg _ (by omega)) (Int.emod_lt_of_pos _ m0) _ _).1⟩
  ·refine ex1 rfl ⟨p,_,B7 rfl rfl ⟨SqL.of A9,rfl,ex1 rfl ⟨p,_,B7 rfl rfl ⟨SqL.of A9,rfl,_,ex1 rfl ⟨by omega,by omega,fun m2 h2 h3=>?_⟩⟩⟩⟩⟩
   refine ex1 rfl ⟨p,_,B7 rfl rfl ⟨SqL.of A9,rfl,B7 rfl rfl ⟨_,ex1 rfl ⟨by omega,by omega,fun m3 h4 h5=>?_⟩⟩⟩⟩
   refine B7 rfl rfl ⟨⟨by decide,by decide⟩,ex1 rfl (B7 rfl rfl ⟨m0,?_⟩)⟩
   exact(nn _ (Int.emod_nonneg _ (by omega)) (Int.emod_lt_of_pos _ m0) _ _).2
end
theorem six{d n:Nat}(h:d<n):seqIndex? (d:Int) n=some d:=by
 unfold seqIndex?
 simp
 omega
theorem erase_perm{α:Type}{l:List α}{i:Nat}{x:α}(h:l[i]?=some x):(x::l.eraseIdx i).Perm l:=ST.erase_perm h
theorem Dm{α β:Type}(f:α->β):∀(l:List α) (i:Nat),(l.map f).eraseIdx i =(l.eraseIdx i).map f
 | [],_=>rfl
 | _::_,0=>rfl
 | a::l,i+1=>by
  show f a ::(l.map f).eraseIdx i=f a ::(l.eraseIdx i).map f
  rw[Dm f l i]
theorem Oj{all rest got:List Str}(pm:(rest++got).Perm all)(h1:∀x∈all,K3 x=true)(h2:all.Nodup)(h3:all.length<=100):T2 got:=by
 refine⟨fun x hx=>h1 x (pm.mem_iff.mp (List.mem_append_right _ hx)),?_,?_⟩
 ·exact(List.nodup_append.mp (pm.nodup_iff.mpr h2)).2.1
 ·have:=pm.length_eq
  rw[List.length_append]at this
  omega
theorem Ny{all rest got:List Str}{d:Nat}{x:Str}(pm:(rest++got).Perm all)(h:rest[d]?=some x):(rest.eraseIdx d ++(got ++ [x])).Perm all:=by
 refine List.Perm.trans ?_ pm
 rw[<-List.append_assoc]
 refine List.perm_append_comm.trans ?_
 rw[<-List.append_assoc]
 exact(erase_perm h).append_right got
theorem Sm1{p b:Addr}{H H':Hp}{o:HO}(h:Sm [p] H H')(e:H b=some o)(n:b≠p):H' b=some o:=h b o e fun z=>n (List.mem_singleton.mp z)
section
variable{P:Program}{w:World}{K:PySem.W.Frag}{mg:Str->Option Value}{base:Heap}
noncomputable def all20:List Str:=["b", "aa", "zebra", "c", "quartzes", "ab", "m", "knows", "d", "mm", "likes", "z", "a", "ba", "abcdefgh", "y", "zz", "e", "x", "f"]
noncomputable abbrev txt20:Str := "b aa zebra c quartzes ab m knows d mm likes z a ba abcdefgh y zz e x f"
theorem Rv:Builtin.Str.partsBetween txt20 (Builtin.Str.occurrences txt20 " " 0 txt20.length (txt20.length+1)) (" ":Str).length=all20:=by decide +kernel
theorem all20_ok:(∀x∈all20,K3 x=true)/\all20.Nodup:=⟨by decide +kernel,by decide +kernel⟩
theorem Ee:∃all:List Str,all.length=20/\(∀x∈all,K3 x=true)/\all.Nodup/\∀(Q:VK) (H:Hp),(∀l,H l=none->Q (.ref l) (upd H l (.lst (all.map V.str))))->Qh (.str txt20) [.str " "] H Q :=
 ⟨all20,rfl,all20_ok.1,all20_ok.2,fun Q H h=>⟨txt20, " ",all20,rfl,rfl,by decide +kernel,by decide +kernel,by decide +kernel,by decide +kernel,Rv,by decide +kernel,h⟩⟩
theorem Y0:FnScope ["_law_left_here", "_law_many", "_law_some", "_law_names_here", "_law_k"] ["_law_left_here", "_law_many"] (B4 s_law_names):=⟨rfl,rfl,rfl,by decide +kernel,rfl,by decide +kernel,by decide +kernel⟩
noncomputable def Gw:Sp:=fun vs H Q _=>∃(p:Addr) (c:Int) (many:Nat),vs = [.ref p,.int (many:Int)]/\LeftAt H p c/\c<=900000/\many<=20 /\
 ∀l (ss:List Str) H',H l=none->Sm [p] H H'->H' l=some (.lst (ss.map V.str))->ss.length=many->T2 ss->LeftAt H' p (c+many)->Q (.ref l) H'
set_option maxHeartbeats 2000000 in
theorem Dx(T:Tx K mg):FnOk P w K mg base CX0 3 T.law_names.f T.law_names.fd ["_law_left_here", "_law_many"] Gw:=by
 have G_law_pick:FnOk P w K mg base CX0 2 T.law_pick.f T.law_pick.fd ["_law_left_here", "_law_many"] Br:=S9 T
 have sc:=Y0
 refine T.law_names.F.ok Y0 (fun vs H Q E h=>?_) (fun cdv A outer s H vs Q E hr h=>?_)
 ·obtain⟨p,c,m,rfl,_⟩:=h
  rfl
 ·obtain⟨p,c,many,rfl,hL,c1,m1,q⟩:=h
  obtain⟨a0,b0,e0,c0⟩:=id hL
  refine⟨_,(B2 (C6 (i:=2) sc.nd rfl (by first | exact Or.inl rfl | exact Or.inr rfl) (Gs K PySem.F.plainAttrs_str PySem.F.slot_str_split PySem.F.type_str_split Nj z7 (A8 z7 B1)))
   (B2 (C6 (i:=3) sc.nd rfl (by first | exact Or.inl rfl | exact Or.inr rfl) (M0 B1))
   (B2 (J9 PassesOwn.never rfl (Tf T.b_range (A8 (pv 1) B1)) (C4 (i:=4) sc.nd rfl (by first | exact Or.inl rfl | exact Or.inr rfl))
   (B3 (D8 (Gs K PySem.F.plainAttrs_list PySem.F.slot_list_append PySem.F.type_list_append E8 (pv 3) (A8 (Gs K PySem.F.plainAttrs_list PySem.F.slot_list_pop PySem.F.type_list_pop Ob (pv 2) (A8 (D9 T.law_pick G_law_pick (hr.mono (by decide)) (A8 (pv 0) (A8 (E2 (Q6 K) T.b_len O8 (A8 (pv 2) B1)) B1))) B1)) B1)))))
   (B3 (C1 (pv 3)))))),?_⟩
  obtain⟨all,al,a1,a2,hspl⟩:=Ee
  refine⟨rfl,?_⟩
  dsimp only[Mn,tC,Sr]
  refine hspl _ _ fun a ha=>?_
  refine⟨Nat.zero_le _,fun b hb=>?_⟩
  have hb':H b=none:=(Same.new ha).free hb
  have nab:a≠b:=B0 A9 hb
  have npa:p≠a:=B0 e0 ha
  have npb:p≠b:=B0 e0 hb'
  refine ex1 rfl (ex1 rfl ⟨by omega,by omega,?_⟩)
  rw[Int.toNat_natCast]
  refine J5 (fun i σ H1=>(∃v4,σ = [some (.ref p),some (.int (many:Int)),some (.ref a),some (.ref b),v4])/\Sm [p] H H1/\LeftAt H1 p (c+i)/\∃rest got:List Str,H1 a=some (.lst (rest.map V.str))/\H1 b=some (.lst (got.map V.str))/\(rest++got).Perm all/\got.length=i) ?_ ?_ ?_
  ·refine⟨⟨_,rfl⟩,((Same.new ha).trans (Same.new hb)).sm,((hL.cast (by omega)).upd npa).upd npb,all,[],by rw[B5 nab,A9],by rw[A9];rfl,by rw[List.append_nil],rfl⟩
  ·rintro i σ H1 hi ⟨⟨v4,rfl⟩,k1,L1,rest,got,ea,eb,pm,hg⟩ D1 hD1 _
   have hlen:rest.length=20-i:=by
    have:=pm.length_eq
    rw[List.length_append,hg,al]at this
    omega
   refine ex1 rfl ⟨.inl ⟨rfl,_,SqL.of eb⟩,ex1 rfl ⟨.inl ⟨rfl,_,SqL.of ea⟩,ex1 rfl (ex1 rfl (B7 (a:=a) rfl (.inl (SqL.of ea)) (Bd (a:=p) (b:=c+i) rfl L1 (by omega) ?_ ?_ fun d H2 hd k2 L2=>?_)))⟩⟩
   ·rw[List.length_map];omega
   ·rw[List.length_map];omega
   rw[List.length_map]at hd
   have hd':d<rest.length:=by omega
   have hx:rest[d]?=some rest[d]:=List.getElem?_eq_getElem hd'
   have ea2:=Sm1 k2 ea npa.symm
   have eb2:=Sm1 k2 eb npb.symm
   refine⟨a,_,_,d,.str rest[d],rfl,rfl,ea2,by omega,by omega,six (by rw[List.length_map];exact hd'),by rw[List.getElem?_map,hx];rfl,b,B7 rfl rfl ⟨by rw[B5 nab.symm];exact eb2,?_,?_⟩⟩
   ·rw[List.length_map,sizeLine_eq];omega
   refine hD1 _ _ ⟨⟨_,rfl⟩,?_,?_,rest.eraseIdx d,got ++ [rest[d]],?_,?_,Ny pm hx,by rw[List.length_append,hg];rfl⟩
   ·exact((k1.trans k2).updN ha).updN hb'
   ·exact((L2.cast (by omega)).upd npa).upd npb
   ·rw[B5 nab,A9,Dm]
   ·rw[A9,List.map_append];rfl
  ·rintro σ H1 ⟨⟨v4,rfl⟩,k1,L1,rest,got,ea,eb,pm,hg⟩
   exact⟨_,rfl,q b got H1 hb' k1 eb hg (Oj pm a1 a2 (by omega)) L1⟩
end
noncomputable def pd(k:Str×Str):PyData:=.tuple [.str k.1,.str k.2]
theorem Y8{x:Str}(h:K3 x=true):PySem.PyData.strOk x=true:=by
 unfold K3 at h
 rw[Bool.and_eq_true]at h
 unfold PySem.PyData.strOk
 rw[<-Array.all_toList,List.all_eq_true]
 intro c hc
 have:=(List.all_eq_true.mp h.2) c hc
 unfold Ro at this
 rw[Bool.and_eq_true]at this
 have:=of_decide_eq_true this.2
 exact decide_eq_true (by omega)
theorem Kv{K:PySem.W.Frag}{H:Hp}{t:Addr}{k:Str×Str}(h:H t=some (.tup [.str k.1,.str k.2])):Rp K H (pd k) (.ref t):=by
 unfold pd
 simp only[Rp,Rps]
 exact⟨t,_,rfl,SqT.of h,_,_,rfl,rfl,_,_,rfl,rfl,rfl⟩
theorem Ci{K:PySem.W.Frag}{H:Hp}:∀{ps:List PA2},(∀q∈ps,E4 H q)->Rps K H (ps.map fun q=>pd q.2) (J8 ps)
 | [],_=>by simp[Rps,J8]
 | q::r,h=>by
  show Rps K H (pd q.2::r.map fun q=>pd q.2) (V.ref q.1::J8 r)
  simp only[Rps]
  exact⟨_,_,rfl,Kv (h q (List.mem_cons_self ..)),Ci fun z hz=>h z (List.mem_cons_of_mem _ hz)⟩
theorem Av{K:PySem.W.Frag}{H:Hp}{l:Addr}{ps:List PA2}(hl:H l=some (.lst (J8 ps)))(h:∀q∈ps,E4 H q):Rp K H (.list (ps.map fun q=>pd q.2)) (.ref l):=by
 simp only[Rp]
 exact⟨l,_,rfl,SqL.of hl,Ci h⟩
theorem Tk(a b:Str×Str):PyData.eqv (pd a) (pd b)=decide (a=b):=by
 unfold pd
 rw[PyData.eqv,PyData.eqvAll,PyData.eqvAll,PyData.eqvAll,PyData.eqv,PyData.eqv]
 by_cases h1:a.1=b.1
 ·by_cases h2:a.2=b.2
  ·rw[decide_eq_true (Prod.ext h1 h2),h1,h2];simp
  ·rw[decide_eq_false fun z=>h2 (congrArg Prod.snd z)];simp[h2]
 ·rw[decide_eq_false fun z=>h1 (congrArg Prod.fst z)];simp[h1]
theorem Bz(k:Str×Str):∀ps:List PA2,((ps.map fun q=>pd q.2).any fun z=>PyData.eqv z (pd k))=decide (k∈ps.map fun q=>q.2)
 | []=>rfl
 | q::r=>by
  rw[List.map_cons,List.any_cons,Bz k r,Tk,List.map_cons]
  by_cases e:q.2=k
  ·rw[decide_eq_true e,Bool.true_or,decide_eq_true (show k∈q.2::_ from by rw[<-e];exact List.mem_cons_self ..)]
  ·rw[decide_eq_false e,Bool.false_or]
   by_cases h:k∈r.map fun q=>q.2
   ·rw[decide_eq_true h,decide_eq_true (List.mem_cons_of_mem _ h)]
   ·rw[decide_eq_false h,decide_eq_false fun z=>(List.mem_cons.mp z).elim (fun z=>e z.symm) h]
theorem Ql{k:Str×Str}(h1:PySem.PyData.strOk k.1=true)(h2:PySem.PyData.strOk k.2=true):(pd k).canLay0=true:=by
 unfold pd
 simp[PyData.canLay0,PyData.canLayAll0,h1,h2]
theorem Ei:∀{ps:List PA2},(∀q∈ps,PySem.PyData.strOk q.2.1=true/\PySem.PyData.strOk q.2.2=true)->PyData.canLayAll0 (ps.map fun q=>pd q.2)=true
 | [],_=>rfl
 | q::r,h=>by
  rw[List.map_cons,PyData.canLayAll0,Ql (h q (List.mem_cons_self ..)).1 (h q (List.mem_cons_self ..)).2,Ei fun z hz=>h z (List.mem_cons_of_mem _ hz)]
  rfl
theorem X4{K:PySem.W.Frag}{H:Hp}{t l:Addr}{k:Str×Str}{ps:List PA2}{Q:VK}(ht:H t=some (.tup [.str k.1,.str k.2]))(hl:H l=some (.lst (J8 ps)))(hp:∀q∈ps,E4 H q)
  (hk:PySem.PyData.strOk k.1=true/\PySem.PyData.strOk k.2=true) (hs:∀q∈ps,PySem.PyData.strOk q.2.1=true/\PySem.PyData.strOk q.2.2=true) (q:Q (.bl (!decide (k∈ps.map fun q=>q.2))) H):Wy K true (.ref t) (.ref l) H Q :=
 ⟨pd k,_,Kv ht,.inl (Av hl hp),⟨Ql hk.1 hk.2,by simp[pd,PyData.depth,PyData.depthAll]⟩,Ei hs,by rw[if_pos rfl,Bz];exact q⟩
structure FL(H:Hp)(l:Addr)(ps:List PA2)(ss:List Str):Prop where
 at_:H l=some (.lst (J8 ps))
 pin:∀q∈ps,E4 H q
 nm:∀q∈ps,q.2.1∈ss/\q.2.2∈ss
 nd:(ps.map fun q=>q.2).Nodup
theorem FL.sm{H H':Hp}{p l:Addr}{c:Int}{ps:List PA2}{ss:List Str}(h:FL H l ps ss)(L:LeftAt H p c)(n:l≠p)(s:Sm [p] H H'):FL H' l ps ss:=by
 obtain⟨x,y,e,_⟩:=L
 exact⟨Sm1 s h.at_ n,fun q hq=>Sm1 s (h.pin q hq) (u5 (h.pin q hq) e (by intro z;cases z)),h.nm,h.nd⟩
theorem FL.new{H:Hp}{l t:Addr}{o:HO}{ps:List PA2}{ss:List Str}(h:FL H l ps ss)(n:H t=none):FL (upd H t o) l ps ss :=
 ⟨by rw[B5 (B0 h.at_ n)];exact h.at_,fun q hq=>by unfold E4;rw[B5 (B0 (h.pin q hq) n)];exact h.pin q hq,h.nm,h.nd⟩
theorem FL.put{H:Hp}{l t:Addr}{ps:List PA2}{ss:List Str}{x y:Str}(h:FL H l ps ss)(k:Nat)(ht:H t=some (.tup [.str x,.str y]))(hx:x∈ss)(hy:y∈ss)(hn:(x,y)∉ps.map fun q=>q.2) :
  FL (upd H l (.lst ((J8 ps).take k++V.ref t ::(J8 ps).drop k))) l (ps.take k ++(t,x,y)::ps.drop k) ss:=by
 have pm:(ps.take k ++(t,x,y)::ps.drop k).Perm ((t,x,y)::ps):=by
  refine List.perm_middle.trans (List.Perm.cons _ ?_)
  rw[List.take_append_drop]
 have mm:∀q∈ps.take k ++(t,x,y)::ps.drop k,q =(t,x,y)\/q∈ps:=fun q hq=>List.mem_cons.mp (pm.mem_iff.mp hq)
 refine⟨?_,fun q hq=>?_,fun q hq=>?_,?_⟩
 ·rw[A9]
  unfold J8
  rw[List.map_append,List.map_take,List.map_cons,List.map_drop]
 ·unfold E4
  rcases mm q hq with rfl | z
  ·rw[B5 (u5 ht h.at_ (by intro z;cases z))];exact ht
  ·rw[B5 (u5 (h.pin q z) h.at_ (by intro z;cases z))];exact h.pin q z
 ·rcases mm q hq with rfl | z
  ·exact⟨hx,hy⟩
  ·exact h.nm q z
 ·rw[(pm.map _).nodup_iff]
  show((x,y)::ps.map fun q=>q.2).Nodup
  exact List.nodup_cons.mpr ⟨hn,h.nd⟩
theorem FL.app{H:Hp}{l t:Addr}{ps:List PA2}{ss:List Str}{x y:Str}(h:FL H l ps ss)(ht:H t=some (.tup [.str x,.str y]))(hx:x∈ss)(hy:y∈ss)(hn:(x,y)∉ps.map fun q=>q.2) :
  FL (upd H l (.lst (J8 ps ++ [V.ref t]))) l (ps ++ [(t,x,y)]) ss:=by
 have:=h.put ps.length ht hx hy hn
 have e:(J8 ps).length=ps.length:=by unfold J8;rw[List.length_map]
 rw[<-e,List.take_length,List.drop_length,e,List.take_length,List.drop_length]at this
 exact this
theorem Gh(ss:List Str):∀tt:List Str,(tt.flatMap fun a=>ss.map fun b=>(a,b)).length=tt.length*ss.length
 | []=>by simp
 | a::r=>by rw[List.flatMap_cons,List.length_append,List.length_map,Gh ss r,List.length_cons,Nat.succ_mul];omega
theorem FL.len{H:Hp}{l:Addr}{ps:List PA2}{ss:List Str}(h:FL H l ps ss):ps.length<=ss.length*ss.length:=by
 have:=h.nd.length_le_of_subset (l₂:=ss.flatMap fun a=>ss.map fun b=>(a,b)) (fun k hk=>by
  obtain⟨q,hq,rfl⟩:=List.mem_map.mp hk
  obtain⟨h1,h2⟩:=h.nm q hq
  exact List.mem_flatMap.mpr ⟨q.2.1,h1,List.mem_map.mpr ⟨q.2.2,h2,rfl⟩⟩)
 rw[Gh,List.length_map]at this
 exact this
section
variable{P:Program}{w:World}{K:PySem.W.Frag}{mg:Str->Option Value}{base:Heap}
theorem Te(d1 d2 d:Nat)(h1:d1<3)(h2:d2<4)(h:d<8):∃n:Nat,n<=10/\atI [V.int (8 +(d1:Int)),V.int d2,V.int 4,V.int 5,V.int 6,V.int 7,V.int 5,V.int 6] (d:Int)=some (.int (n:Int)):=by
 suffices ∃n:Nat,n<=10/\[V.int (8 +(d1:Int)),V.int d2,V.int 4,V.int 5,V.int 6,V.int 7,V.int 5,V.int 6][d]?=some (.int (n:Int)) by
  obtain⟨n,h,e⟩:=this
  exact⟨n,h,Ay e⟩
 match d,h with
 | 0,_=>exact⟨8+d1,by omega,by show some (V.int _)=_;rw[Int.natCast_add];rfl⟩
 | 1,_=>exact⟨d2,by omega,rfl⟩
 | 2,_=>exact⟨4,by omega,rfl⟩
 | 3,_=>exact⟨5,by omega,rfl⟩
 | 4,_=>exact⟨6,by omega,rfl⟩
 | 5,_=>exact⟨7,by omega,rfl⟩
 | 6,_=>exact⟨5,by omega,rfl⟩
 | 7,_=>exact⟨6,by omega,rfl⟩
theorem o8:FnScope ["_law_left_here", "_law_way"] ["_law_left_here"] (B4 s_law_size):=⟨rfl,rfl,rfl,by decide +kernel,rfl,by decide +kernel,by decide +kernel⟩
noncomputable def Ld:Sp:=fun vs H Q _=>∃(p:Addr) (c:Int),vs = [.ref p]/\LeftAt H p c/\c<=900000 /\
 ∀(n:Nat) H',n<=10->Sm [p] H H'->LeftAt H' p (c+3)->Q (.int (n:Int)) H'
theorem Eo(T:Tx K mg):FnOk P w K mg base CX0 3 T.law_size.f T.law_size.fd ["_law_left_here"] Ld:=by
 have G_law_pick:FnOk P w K mg base CX0 2 T.law_pick.f T.law_pick.fd ["_law_left_here", "_law_many"] Br:=S9 T
 have sc:=o8
 refine T.law_size.F.ok o8 (fun vs H Q E h=>?_) (fun cdv A outer s H vs Q E hr h=>?_)
 ·obtain⟨p,c,rfl,_⟩:=h
  rfl
 ·obtain⟨p,c,rfl,hL,c1,q⟩:=h
  refine⟨_,(B2 (C6 (i:=1) sc.nd rfl (by first | exact Or.inl rfl | exact Or.inr rfl) (D9 T.law_pick G_law_pick (hr.mono (by decide)) (A8 (pv 0) (A8 B6 B1))))
   (@B3 _ _ _ (@C1 _ _ _ _ (@K4 _ _ _ _ _ _ _ (ixL K) (@M0 _ _ _ _ (@A8 _ _ _ _ _ (C2 h9 B6 (D9 T.law_pick G_law_pick (hr.mono (by decide)) (A8 (pv 0) (A8 B6 B1)))) (@A8 _ _ _ _ _ (D9 T.law_pick G_law_pick (hr.mono (by decide)) (A8 (pv 0) (A8 B6 B1))) (@A8 _ _ _ _ _ B6 (@A8 _ _ _ _ _ B6 (@A8 _ _ _ _ _ B6 (@A8 _ _ _ _ _ B6 (@A8 _ _ _ _ _ B6 (@A8 _ _ _ _ _ B6 B1 (by rfl)) (by rfl)) (by rfl)) (by rfl)) (by rfl)) (by rfl)) (by rfl)) (by rfl))) (pv 1) (fun _ _=>rfl))))),?_⟩
  refine ex1 rfl (Bd (a:=p) rfl hL (by omega) (by decide) (by decide) fun d H1 hd k1 L1=>?_)
  refine ex1 rfl (Bd (a:=p) rfl L1 (by omega) (by decide) (by decide) fun d1 H2 hd1 k2 L2=>?_)
  refine B7 rfl rfl ?_
  refine ex1 rfl (Bd (a:=p) rfl L2 (by omega) (by decide) (by decide) fun d2 H3 hd2 k3 L3=>?_)
  refine⟨by show 8<=sizeLine;decide,fun l hl=>?_⟩
  obtain⟨n,hn,e⟩:=Te d1 d2 d (by omega) (by omega) (by omega)
  have e3:=L3.get
  refine ex1 rfl ⟨l,_,B7 rfl rfl ⟨SqL.of A9,e,?_⟩⟩
  exact q n _ hn (((k1.trans k2).trans k3).new hl) ((L3.cast (by omega)).upd (B0 e3 hl))
theorem LeftAt.ne{H:Hp}{p n:Addr}{c:Int}{ss:List Str}(h:LeftAt H p c)(hn:H n=some (.lst (ss.map V.str))):n≠p:=by
 rintro rfl
 obtain⟨a,b,e,_⟩:=h
 rw[hn]at e
 cases ss with
 | nil=>cases e
 | cons x r=>cases e
theorem Ol(d:Nat)(h:d<4):∃n:Nat,0<n/\n<=9/\atI [V.int 4,V.int 6,V.int 9,V.int 3] (d:Int)=some (.int (n:Int)):=by
 suffices ∃n:Nat,0<n/\n<=9/\[V.int 4,V.int 6,V.int 9,V.int 3][d]?=some (.int (n:Int)) by
  obtain⟨n,h1,h2,e⟩:=this
  exact⟨n,h1,h2,Ay e⟩
 match d,h with
 | 0,_=>exact⟨4,by omega,by omega,rfl⟩
 | 1,_=>exact⟨6,by omega,by omega,rfl⟩
 | 2,_=>exact⟨9,by omega,by omega,rfl⟩
 | 3,_=>exact⟨3,by omega,by omega,rfl⟩
theorem S4:FnScope ["_law_left_here", "_law_names_here", "_law_found", "_law_often", "_law_one", "_law_other"] ["_law_left_here", "_law_names_here"] (B4 s_law_strikes):=⟨rfl,rfl,rfl,by decide +kernel,rfl,by decide +kernel,by decide +kernel⟩
noncomputable def z4(K:PySem.W.Frag):Sp:=fun vs H Q _=>∃(p n:Addr) (c:Int) (ss:List Str),vs = [.ref p,.ref n]/\LeftAt H p c/\c<=900000/\H n=some (.lst (ss.map V.str))/\T2 ss/\ss.length<=10 /\
 ∀l (ps:List PA2) c' H',H l=none->Sm [p] H H'->H' l=some (.lst (J8 ps))->(∀q∈ps,E4 H' q)->StrkOk ss ps->c'<=c+1000->LeftAt H' p c'->Q (.ref l) H'
noncomputable def SI(H:Hp)(p f:Addr)(ss:List Str)(b:Int)(H1:Hp):Prop:=Sm [p] H H1/\(∃c',c'<=b/\LeftAt H1 p c')/\∃ps,FL H1 f ps ss
set_option maxHeartbeats 4000000 in
theorem u6(T:Tx K mg):FnOk P w K mg base CX0 3 T.law_strikes.f T.law_strikes.fd ["_law_left_here", "_law_names_here"] (z4 K):=by
 have G_law_pick:FnOk P w K mg base CX0 2 T.law_pick.f T.law_pick.fd ["_law_left_here", "_law_many"] Br:=S9 T
 have sc:=S4
 refine T.law_strikes.F.ok S4 (fun vs H Q E h=>?_) (fun cdv A outer s H vs Q E hr h=>?_)
 ·obtain⟨p,n,c,ss,rfl,_⟩:=h
  rfl
 ·obtain⟨p,n,c,ss,rfl,hL,c1,hn,hN,hlen,q⟩:=h
  obtain⟨a0,b0,e0,c0⟩:=id hL
  refine⟨_,(B2 (C6 (i:=2) sc.nd rfl (by first | exact Or.inl rfl | exact Or.inr rfl) (M0 B1))
   (B2 (C6 (i:=3) sc.nd rfl (by first | exact Or.inl rfl | exact Or.inr rfl) (K4 (ixL K) (M0 (A8 B6 (A8 B6 (A8 B6 (A8 B6 B1))))) (D9 T.law_pick G_law_pick (hr.mono (by decide)) (A8 (pv 0) (A8 B6 B1))) (fun _ _=>rfl)))
   (B2 (J9 PassesOwn.never rfl (piL K (pv 1)) (C4 (i:=4) sc.nd rfl (by first | exact Or.inl rfl | exact Or.inr rfl))
   (B2 (J9 PassesOwn.never rfl (piL K (pv 1)) (C4 (i:=5) sc.nd rfl (by first | exact Or.inl rfl | exact Or.inr rfl))
   (B3 (J7 (PW.pt (Cy (C8 Qx (pv 4) (pv 5) (E3 _)) (Cy (C8 U1 (D9 T.law_pick G_law_pick (hr.mono (by decide)) (A8 (pv 0) (A8 (pv 3) B1))) B6 (E3 _)) (Aj (C8 (An K hr.units) (U0 (A8 (pv 4) (A8 (pv 5) B1))) (pv 2) rfl))))) (B2 (D8 (Gs K PySem.F.plainAttrs_list PySem.F.slot_list_insert PySem.F.type_list_insert Lv (pv 2) (A8 (D9 T.law_pick G_law_pick (hr.mono (by decide)) (A8 (pv 0) (A8 (C2 h9 (E2 (Q6 K) T.b_len O8 (A8 (pv 2) B1)) B6) B1))) (A8 (U0 (A8 (pv 4) (A8 (pv 5) B1))) B1))))
   (B3 (J7 (PW.pt (Cy (C8 U1 (D9 T.law_pick G_law_pick (hr.mono (by decide)) (A8 (pv 0) (A8 B6 B1))) B6 (E3 _)) (Aj (C8 (An K hr.units) (U0 (A8 (pv 5) (A8 (pv 4) B1))) (pv 2) rfl)))) (B3 (D8 (Gs K PySem.F.plainAttrs_list PySem.F.slot_list_append PySem.F.type_list_append E8 (pv 2) (A8 (U0 (A8 (pv 5) (A8 (pv 4) B1))) B1)))) D0))) D0)))
   (B3 (J7 (PW.pt (Cy (C8 U1 (D9 T.law_pick G_law_pick (hr.mono (by decide)) (A8 (pv 0) (A8 B6 B1))) B6 (E3 _)) (Aj (C8 (An K hr.units) (U0 (A8 (pv 4) (A8 (pv 4) B1))) (pv 2) rfl)))) (B3 (D8 (Gs K PySem.F.plainAttrs_list PySem.F.slot_list_append PySem.F.type_list_append E8 (pv 2) (A8 (U0 (A8 (pv 4) (A8 (pv 4) B1))) B1)))) D0))))
   (B3 (C1 (pv 2)))))),?_⟩
  refine⟨Nat.zero_le _,fun f hf=>?_⟩
  have npf:p≠f:=B0 e0 hf
  have nnf:n≠f:=B0 hn hf
  have nnp:n≠p:=hL.ne hn
  have nnD:n∉[p]:=by simpa using nnp
  have nm:∀x∈ss,PySem.PyData.strOk x=true:=fun x hx=>Y8 (hN.1 x hx)
  refine⟨by show 4<=sizeLine;decide,fun t ht=>?_⟩
  have s1:Same H (upd (upd H f (.lst [])) t (.lst [.int 4,.int 6,.int 9,.int 3])):=(Same.new hf).trans (Same.new ht)
  have ef:(upd (upd H f (.lst [])) t (.lst [.int 4,.int 6,.int 9,.int 3])) f=some (.lst []):=by rw[B5 (B0 A9 ht),A9]
  refine ex1 rfl (Bd (a:=p) (b:=c) rfl (hL.same s1) (by omega) (by decide) (by decide) fun d H1 hd k1 L1=>?_)
  obtain⟨often,o1,o2,eo⟩:=Ol d (by omega)
  have hpt:p≠t:=B0 ((Same.new hf) _ _ e0) ht
  refine⟨t,_,B7 rfl rfl ⟨SqL.of (Sm1 k1 A9 hpt.symm),eo,?_⟩⟩
  have i0:SI H p f ss (c+1) H1:=⟨s1.sm.trans k1,⟨_,Int.le_refl _,L1⟩,[],Sm1 k1 ef npf.symm,by simp,by simp,by simp⟩
  have hseq:∀{H1 b},SI H p f ss b H1->SqL K H1 n (ss.map V.str):=fun h=>(h.1.at nnD).seqL (SqL.of hn)
  refine ex1 rfl ⟨n,rfl,⟨_,hseq i0⟩,?_⟩
  refine T7 (asL (K:=K) (SqL.of hn)) (fun i σ H1=>(∃v4 v5,σ = [some (.ref p),some (.ref n),some (.ref f),some (.int (often:Int)),v4,v5])/\SI H p f ss (c+1+31*i) H1) ?_ ?_ ?_ ?_
  ·exact⟨⟨_,_,rfl⟩,by simpa using i0⟩
  ·rintro i σ H1 hi ⟨_,h1⟩
   exact h1.1.at nnD
  ·rintro i σ H1 x hx ⟨⟨v4,v5,rfl⟩,h1⟩ D1 hD1 _
   rw[List.getElem?_map]at hx
   obtain⟨one,ho,rfl⟩:∃y,ss[i]?=some y/\V.str y=x:=by
    cases e:ss[i]? with
    | none=>rw[e]at hx;cases hx
    | some y=>rw[e]at hx;exact⟨y,rfl,by injection hx⟩
   have hone:one∈ss:=List.mem_of_getElem? ho
   have hi:i<ss.length:=(List.getElem?_eq_some_iff.mp ho).1
   refine ex1 rfl ⟨n,rfl,⟨_,hseq h1⟩,?_⟩
   refine T7 (asL (K:=K) (SqL.of hn)) (fun j σ H1=>(∃v5,σ = [some (.ref p),some (.ref n),some (.ref f),some (.int (often:Int)),some (.str one),v5])/\SI H p f ss (c+1+31*i+3*j) H1) ?_ ?_ ?_ ?_
   ·exact⟨⟨_,rfl⟩,by simpa using h1⟩
   ·rintro i σ H1 hi ⟨_,h1⟩
    exact h1.1.at nnD
   ·rintro j σ H1 x hx ⟨⟨v5,rfl⟩,h1⟩ D2 hD2 _
    rw[List.getElem?_map]at hx
    obtain⟨oth,ho,rfl⟩:∃y,ss[j]?=some y/\V.str y=x:=by
     cases e:ss[j]? with
     | none=>rw[e]at hx;cases hx
     | some y=>rw[e]at hx;exact⟨y,rfl,by injection hx⟩
    have hoth:oth∈ss:=List.mem_of_getElem? ho
    have hj:j<ss.length:=(List.getElem?_eq_some_iff.mp ho).1
    obtain⟨k1,⟨c',hc',L1⟩,ps,F1⟩:=h1
    have done:∀{H2 c2 ps2},Sm [p] H H2->c2<=c'+3->LeftAt H2 p c2->FL H2 f ps2 ss->SI H p f ss (c+1+31*i+3 *((j+1:Nat):Int)) H2:=fun{H2 c2 ps2} a b d e=>⟨a,⟨c2,by omega,d⟩,ps2,e⟩
    refine ex1 rfl (ex1 rfl ⟨rfl,ex1 rfl ?_⟩)
    refine V8 (fun h1=>?_) (fun h1=>Az (hD2 _ _ ⟨⟨_,rfl⟩,done k1 (by omega) L1 F1⟩))
    refine ex1 rfl (ex1 rfl (Bd (a:=p) (b:=c') rfl L1 (by omega) (by omega) (by omega) fun d1 H2 hd1 k2 L2=>⟨rfl,_,rfl,?_⟩))
    have F2:=F1.sm L1 npf.symm k2
    refine V8 (fun h2=>?_) (fun h2=>Az (hD2 _ _ ⟨⟨_,rfl⟩,done (k1.trans k2) (by omega) L2 F2⟩))
    refine ex1 rfl (ex1 rfl ⟨by show 2<=sizeLine;decide,fun t2 ht2=>?_⟩)
    have F3:=F2.new (o:=.tup [.str one,.str oth]) ht2
    have e2:=L2.get
    have L3:=L2.upd (o:=.tup [.str one,.str oth]) (B0 e2 ht2)
    have k3:=(k1.trans k2).new (o:=.tup [.str one,.str oth]) ht2
    refine ex1 rfl (X4 (k:=(one,oth)) A9 F3.at_ F3.pin ⟨nm _ hone,nm _ hoth⟩ (fun q hq=>⟨nm _ (F3.nm q hq).1,nm _ (F3.nm q hq).2⟩) ⟨_,rfl,?_⟩)
    refine V8 (fun h3=>?_) (fun h3=>hD2 _ _ ⟨⟨_,rfl⟩,done k3 (by omega) L3 F3⟩)
    have h3':(one,oth)∉ps.map fun q=>q.2:=by simpa using h3
    have lps:=F3.len
    have lps':ps.length<=100:=Nat.le_trans lps (Nat.mul_le_mul hlen hlen)
    have rl:(J8 ps).length=ps.length:=by unfold J8;rw[List.length_map]
    refine ex1 rfl ⟨.inl ⟨rfl,_,SqL.of F3.at_⟩,ex1 rfl (ex1 rfl (B7 (a:=f) rfl (.inl (SqL.of F3.at_)) (B7 rfl rfl (Bd (a:=p) (b:=c'+1) rfl L3 (by omega) (by omega) (by omega) fun d2 H4 hd2 k4 L4=>?_))))⟩
    have F4:=F3.sm L3 npf.symm k4
    refine ex1 rfl (ex1 rfl ⟨by show 2<=sizeLine;decide,fun t3 ht3=>?_⟩)
    have F5:=F4.new (o:=.tup [.str one,.str oth]) ht3
    have e4:=L4.get
    have L5:=L4.upd (o:=.tup [.str one,.str oth]) (B0 e4 ht3)
    have k5:=(k3.trans k4).new (o:=.tup [.str one,.str oth]) ht3
    refine⟨f,_,_,d2,ex1 rfl ⟨rfl,rfl,F5.at_,by omega,by rw[sizeLine_eq];omega,?_⟩⟩
    have F6:=F5.put d2 A9 hone hoth h3'
    have L6:=L5.upd (o:=.lst ((J8 ps).take d2++V.ref t3 ::(J8 ps).drop d2)) npf
    have k6:=k5.updN (o:=.lst ((J8 ps).take d2++V.ref t3 ::(J8 ps).drop d2)) hf
    generalize hps:ps.take d2 ++(t3,one,oth)::ps.drop d2=ps' at F6
    refine ex1 rfl (Bd (a:=p) rfl L6 (by omega) (by decide) (by decide) fun d3 H7 hd3 k7 L7=>⟨rfl,_,rfl,?_⟩)
    have F7:=F6.sm L6 npf.symm k7
    refine V8 (fun h4=>?_) (fun h4=>Az (hD2 _ _ ⟨⟨_,rfl⟩,done (k6.trans k7) (by omega) L7 F7⟩))
    refine ex1 rfl (ex1 rfl ⟨by show 2<=sizeLine;decide,fun t4 ht4=>?_⟩)
    have F8:=F7.new (o:=.tup [.str oth,.str one]) ht4
    have e7:=L7.get
    have L8:=L7.upd (o:=.tup [.str oth,.str one]) (B0 e7 ht4)
    have k8:=(k6.trans k7).new (o:=.tup [.str oth,.str one]) ht4
    refine ex1 rfl (X4 (k:=(oth,one)) A9 F8.at_ F8.pin ⟨nm _ hoth,nm _ hone⟩ (fun q hq=>⟨nm _ (F8.nm q hq).1,nm _ (F8.nm q hq).2⟩) ⟨_,rfl,?_⟩)
    refine V8 (fun h5=>?_) (fun h5=>hD2 _ _ ⟨⟨_,rfl⟩,done k8 (by omega) L8 F8⟩)
    have h5':(oth,one)∉ps'.map fun q=>q.2:=by simpa using h5
    have lps:=F8.len
    have lps':ps'.length<=100:=Nat.le_trans lps (Nat.mul_le_mul hlen hlen)
    have rl:(J8 ps').length=ps'.length:=by unfold J8;rw[List.length_map]
    refine ex1 rfl ⟨.inl ⟨rfl,_,SqL.of F8.at_⟩,ex1 rfl (ex1 rfl ⟨by show 2<=sizeLine;decide,fun t5 ht5=>?_⟩)⟩
    have F9:=F8.new (o:=.tup [.str oth,.str one]) ht5
    have e8:=L8.get
    have L9:=L8.upd (o:=.tup [.str oth,.str one]) (B0 e8 ht5)
    have k9:=k8.new (o:=.tup [.str oth,.str one]) ht5
    refine⟨f,B7 rfl rfl ⟨F9.at_,by rw[sizeLine_eq];omega,hD2 _ _ ⟨⟨_,rfl⟩,done (k9.updN hf) (by omega) (L9.upd npf) (F9.app A9 hoth hone h5')⟩⟩⟩
   ·rintro σ H1 ⟨⟨v5,rfl⟩,k1,⟨c',hc',L1⟩,ps,F1⟩
    simp only[List.length_map]at hc'
    have done:∀{H2 c2 ps2},Sm [p] H H2->c2<=c'+1->LeftAt H2 p c2->FL H2 f ps2 ss->SI H p f ss (c+1+31 *((i+1:Nat):Int)) H2:=fun{H2 c2 ps2} a b d e=>⟨a,⟨c2,by omega,d⟩,ps2,e⟩
    refine ex1 rfl (Bd (a:=p) (b:=c') rfl L1 (by omega) (by decide) (by decide) fun d3 H7 hd3 k7 L7=>⟨rfl,_,rfl,?_⟩)
    have F7:=F1.sm L1 npf.symm k7
    refine V8 (fun h4=>?_) (fun h4=>Az (hD1 _ _ ⟨⟨_,_,rfl⟩,done (k1.trans k7) (by omega) L7 F7⟩))
    refine ex1 rfl (ex1 rfl ⟨by show 2<=sizeLine;decide,fun t4 ht4=>?_⟩)
    have F8:=F7.new (o:=.tup [.str one,.str one]) ht4
    have e7:=L7.get
    have L8:=L7.upd (o:=.tup [.str one,.str one]) (B0 e7 ht4)
    have k8:=(k1.trans k7).new (o:=.tup [.str one,.str one]) ht4
    refine ex1 rfl (X4 (k:=(one,one)) A9 F8.at_ F8.pin ⟨nm _ hone,nm _ hone⟩ (fun q hq=>⟨nm _ (F8.nm q hq).1,nm _ (F8.nm q hq).2⟩) ⟨_,rfl,?_⟩)
    refine V8 (fun h5=>?_) (fun h5=>hD1 _ _ ⟨⟨_,_,rfl⟩,done k8 (by omega) L8 F8⟩)
    have h5':(one,one)∉ps.map fun q=>q.2:=by simpa using h5
    have lps:=F8.len
    have lps':ps.length<=100:=Nat.le_trans lps (Nat.mul_le_mul hlen hlen)
    have rl:(J8 ps).length=ps.length:=by unfold J8;rw[List.length_map]
    refine ex1 rfl ⟨.inl ⟨rfl,_,SqL.of F8.at_⟩,ex1 rfl (ex1 rfl ⟨by show 2<=sizeLine;decide,fun t5 ht5=>?_⟩)⟩
    have F9:=F8.new (o:=.tup [.str one,.str one]) ht5
    have e8:=L8.get
    have L9:=L8.upd (o:=.tup [.str one,.str one]) (B0 e8 ht5)
    have k9:=k8.new (o:=.tup [.str one,.str one]) ht5
    refine⟨f,B7 rfl rfl ⟨F9.at_,by rw[sizeLine_eq];omega,hD1 _ _ ⟨⟨_,_,rfl⟩,done (k9.updN hf) (by omega) (L9.upd npf) (F9.app A9 hone hone h5')⟩⟩⟩
  ·rintro σ H1 ⟨⟨v4,v5,rfl⟩,k1,⟨c',hc',L1⟩,ps,F1⟩
   simp only[List.length_map]at hc'
   have lps:=F1.len
   have lps':ps.length<=100:=Nat.le_trans lps (Nat.mul_le_mul hlen hlen)
   exact⟨_,rfl,q f ps c' H1 hf k1 F1.at_ F1.pin ⟨F1.nm,F1.nd,by omega⟩ (by omega) L1⟩
end
theorem bor(x y:Nat):Builtin.bitOr (x:Int) (y:Int) =((x ||| y:Nat):Int):=by
 have h1:¬0<=Builtin.bitNot (x:Int):=by unfold Builtin.bitNot;omega
 have h2:¬0<=Builtin.bitNot (y:Int):=by unfold Builtin.bitNot;omega
 have h3:∀z:Int,Builtin.bitNot (Builtin.bitNot z)=z:=fun z=>by unfold Builtin.bitNot;omega
 rw[Builtin.bitOr,PyProof.Rows.bitAnd_nn h1 h2,h3,h3,h3]
 rfl
theorem Qk(x y:Nat):Builtin.bitAnd (x:Int) (y:Int) =((x &&& y:Nat):Int):=by simp[Builtin.bitAnd]
theorem Ti(k:Nat):(1:Int)*2 ^((k:Int).toNat) =((2^k:Nat):Int):=by rw[Int.one_mul,Int.toNat_natCast,Int.natCast_pow];rfl
theorem Pu(m k:Nat):decide (V.int (Builtin.bitAnd ((m:Int) / 2 ^((k:Int).toNat)) 1)=V.int 1)=m.testBit k:=by
 have e1:(m:Int) / 2 ^((k:Int).toNat) =((m / 2^k:Nat):Int):=by rw[Int.toNat_natCast,Int.natCast_ediv,Int.natCast_pow];rfl
 have e2:Builtin.bitAnd ((m / 2^k:Nat):Int) 1 =((m / 2^k % 2:Nat):Int):=by
  rw[show(1:Int) =((1:Nat):Int)from rfl,Qk,Nat.and_one_is_mod]
 rw[e1,e2,Nat.testBit_eq_decide_div_mod_eq]
 refine decide_eq_decide.mpr ⟨fun h=>?_,fun h=>?_⟩
 ·injection h with h
  omega
 ·rw[h];rfl
noncomputable def E1(m:Nat):V:=.int (m:Int)
structure MB(ns:List Str)(ks:List (Str×Str))(B:List Nat):Prop where
 len:B.length=ns.length
 bit:∀i j,(B.getD i 0).testBit j=true↔∃k∈ks,ns[i]?=some k.1/\ns[j]?=some k.2
theorem MB.zero(ns:List Str):MB ns [] (List.replicate ns.length 0):=by
 refine⟨List.length_replicate,fun i j=>?_⟩
 have e:(List.replicate ns.length 0).getD i 0=0:=by
  rw[List.getD_eq_getElem?_getD,List.getElem?_replicate]
  by_cases h:i<ns.length
  ·rw[if_pos h];rfl
  ·rw[if_neg h];rfl
 rw[e,Nat.zero_testBit]
 simp
theorem S2{α:Type}{l:List α}(h:l.Nodup){i j:Nat}{x:α}(hi:l[i]?=some x)(hj:l[j]?=some x):i=j:=by
 obtain⟨a,e⟩:=List.getElem?_eq_some_iff.mp hi
 obtain⟨b,e'⟩:=List.getElem?_eq_some_iff.mp hj
 exact(List.getElem_inj h).mp (e.trans e'.symm)
theorem MB.step{ns:List Str}{ks:List (Str×Str)}{B:List Nat}(h:MB ns ks B)(nd:ns.Nodup){a b:Nat}{x y:Str}(ha:ns[a]?=some x)(hb:ns[b]?=some y):MB ns (ks ++ [(x,y)]) (B.set a (B.getD a 0 ||| 2^b)):=by
 have hlt:a<B.length:=by rw[h.len];exact(List.getElem?_eq_some_iff.mp ha).1
 refine⟨by rw[List.length_set];exact h.len,fun i j=>?_⟩
 by_cases e:a=i
 ·subst e
  have e:(B.set a (B.getD a 0 ||| 2^b)).getD a 0=B.getD a 0 ||| 2^b:=by
   rw[List.getD_eq_getElem?_getD,List.getElem?_set_self hlt];rfl
  rw[e,Nat.testBit_or,Bool.or_eq_true,h.bit,Nat.testBit_two_pow,decide_eq_true_iff]
  constructor
  ·rintro(⟨k,hk,h1,h2⟩ | rfl)
   ·exact⟨k,List.mem_append_left _ hk,h1,h2⟩
   ·exact⟨(x,y),List.mem_append_right _ (List.mem_singleton.mpr rfl),ha,hb⟩
  ·rintro⟨k,hk,h1,h2⟩
   rcases List.mem_append.mp hk with hk | hk
   ·exact .inl ⟨k,hk,h1,h2⟩
   ·rw[List.mem_singleton.mp hk]at h2
    exact .inr (S2 nd hb h2)
 ·have e':(B.set a (B.getD a 0 ||| 2^b)).getD i 0=B.getD i 0:=by
   rw[List.getD_eq_getElem?_getD,List.getElem?_set_ne e,<-List.getD_eq_getElem?_getD]
  rw[e',h.bit]
  constructor
  ·rintro⟨k,hk,h1,h2⟩
   exact⟨k,List.mem_append_left _ hk,h1,h2⟩
  ·rintro⟨k,hk,h1,h2⟩
   rcases List.mem_append.mp hk with hk | hk
   ·exact⟨k,hk,h1,h2⟩
   ·rw[List.mem_singleton.mp hk]at h1
    exact absurd (S2 nd ha h1) e
theorem MB.mono{ns:List Str}{ks ks':List (Str×Str)}{B:List Nat}(h:MB ns ks B)(e:∀k,k∈ks↔k∈ks'):MB ns ks' B :=
 ⟨h.len,fun i j=>by rw[h.bit];exact⟨fun⟨k,a,b⟩=>⟨k,(e k).mp a,b⟩,fun⟨k,a,b⟩=>⟨k,(e k).mpr a,b⟩⟩⟩
theorem Go{x y:Str}(h:x.cps.toList=y.cps.toList):x=y:=by
 cases x;cases y
 exact congrArg Str.mk (Array.toList_inj.mp h)
theorem Pf{x y:Str}(h1:leS x y)(h2:leS y x):x=y:=Go (List.le_antisymm (as:=x.cps.toList) (bs:=y.cps.toList) h1 h2)
theorem Ah{a b:List Str}(h1:a.Pairwise leS)(h2:b.Pairwise leS)(h:a.Perm b):a=b:=List.Perm.eq_of_pairwise (fun _ _ _ _=>Pf) h1 h2 h
noncomputable def leK(k l:Str×Str):Prop:=leP (0,k) (0,l)
theorem Nr{k l:Str×Str}(h1:leK k l)(h2:leK l k):k=l:=by
 have h1:¬TS.pairLt (Nh (0,l)) (Nh (0,k))=true:=fun z=>by rw[show TS.pairLt (Nh (0,l)) (Nh (0,k))=false from h1]at z;cases z
 have h2:¬TS.pairLt (Nh (0,k)) (Nh (0,l))=true:=fun z=>by rw[show TS.pairLt (Nh (0,k)) (Nh (0,l))=false from h2]at z;cases z
 rw[TS.pairLt_iff]at h1 h2
 have e1:k.1.cps.toList=l.1.cps.toList:=List.le_antisymm (as:=k.1.cps.toList) (bs:=l.1.cps.toList) (fun z=>h1 (.inl z)) (fun z=>h2 (.inl z))
 have e2:k.2.cps.toList=l.2.cps.toList:=List.le_antisymm (as:=k.2.cps.toList) (bs:=l.2.cps.toList) (fun z=>h1 (.inr ⟨e1.symm,z⟩)) (fun z=>h2 (.inr ⟨e1,z⟩))
 exact Prod.ext (Go e1) (Go e2)
theorem Fk{a b:List PA2}(h1:a.Pairwise leP)(h2:b.Pairwise leP)(h:a.Perm b):(a.map fun q=>q.2)=b.map fun q=>q.2 :=
 List.Perm.eq_of_pairwise (le:=leK) (fun _ _ _ _=>Nr) (List.pairwise_map.mpr h1) (List.pairwise_map.mpr h2) (h.map _)
structure ViewAt(H:Hp)(p v:Addr)(ns:List Str)(ks:List (Str×Str))(A B:List Nat):Prop where
 ex:∃a s t,H v=some (.lst [.ref a,.ref s,.ref t])/\H a=some (.lst (ns.map V.str))/\H s=some (.lst (A.map E1))/\H t=some (.lst (B.map E1))/\v≠p/\a≠p/\s≠p/\t≠p
 mA:MB ns (ks.map fun k=>(k.2,k.1)) A
 mB:MB ns ks B
theorem ViewAt.sm{H H':Hp}{p v:Addr}{ns:List Str}{ks:List (Str×Str)}{A B:List Nat}(h:ViewAt H p v ns ks A B)(s:Sm [p] H H'):ViewAt H' p v ns ks A B:=by
 obtain⟨⟨a,b,c,e1,e2,e3,e4,n1,n2,n3,n4⟩,h1,h2⟩:=h
 exact⟨⟨a,b,c,Sm1 s e1 n1,Sm1 s e2 n2,Sm1 s e3 n3,Sm1 s e4 n4,n1,n2,n3,n4⟩,h1,h2⟩
theorem ViewAt.same{H H':Hp}{p v:Addr}{ns:List Str}{ks:List (Str×Str)}{A B:List Nat}(h:ViewAt H p v ns ks A B)(s:Same H H'):ViewAt H' p v ns ks A B:=h.sm s.sm
theorem Nb{n j:Nat}(h:j<n):ixN n (j:Int)=some j:=by
 unfold ixN
 rw[if_pos (by omega),if_pos (by omega),Int.toNat_natCast]
theorem Bl{B:List Nat}{a:Nat}(h:a<B.length):atI (B.map E1) (a:Int)=some (.int ((B.getD a 0:Nat):Int)):=by
 refine Ay ?_
 rw[List.getElem?_map,List.getElem?_eq_getElem h,List.getD_eq_getElem?_getD,List.getElem?_eq_getElem h]
 rfl
theorem Gj(n:Nat):(List.replicate ((n:Int).toNat) [V.int 0]).flatten =(List.replicate n 0).map E1:=by
 rw[Int.toNat_natCast]
 induction n with
 | zero=>rfl
 | succ n ih =>
  rw[List.replicate_succ,List.flatten_cons,ih,List.replicate_succ,List.map_cons]
  rfl
theorem Gv(B:List Nat)(a m:Nat):(B.map E1).set a (.int (m:Int)) =(B.set a m).map E1:=by
 rw[List.map_set]
 rfl
section
variable{P:Program}{w:World}{K:PySem.W.Frag}{mg:Str->Option Value}{base:Heap}
theorem X6:FnScope ["_law_names_here", "_law_strikes_here", "_law_strikers", "_law_struck", "_law_one", "_law_other", "_law_a", "_law_b"] ["_law_names_here", "_law_strikes_here"] (B4 s_law_masks):=⟨rfl,rfl,rfl,by decide +kernel,rfl,by decide +kernel,by decide +kernel⟩
noncomputable def Fv:Sp:=fun vs H Q _=>∃(n a:Addr) (ss:List Str) (ps:List PA2),vs = [.ref n,.ref a]/\H n=some (.lst (ss.map V.str))/\T2 ss/\H a=some (.lst (J8 ps))/\(∀q∈ps,E4 H q)/\StrkOk ss ps /\
 ∀v ns A B H',H v=none->Same H H'->ns.Perm ss->ns.Pairwise leS->(∀p o,H p=some o->ViewAt H' p v ns (ps.map fun q=>q.2) A B)->Q (.ref v) H'
set_option maxHeartbeats 2000000 in
theorem Da(T:Tx K mg):FnOk P w K mg base CX0 1 T.law_masks.f T.law_masks.fd ["_law_names_here", "_law_strikes_here"] Fv:=by
 have sc:=X6
 refine T.law_masks.F.ok X6 (fun vs H Q E h=>?_) (fun cdv A outer s H vs Q E hr h=>?_)
 ·obtain⟨n,a,ss,ps,rfl,_⟩:=h
  rfl
 ·obtain⟨n,a,ss,ps,rfl,hn,hN,ha,hP,hO,q⟩:=h
  refine⟨_,(B2 (C6 (i:=0) sc.nd rfl (by first | exact Or.inl rfl | exact Or.inr rfl) (E2 (Bm K) T.b_sorted J6 (A8 (pv 0) B1)))
   (B2 (Pn (i:=2) (j:=3) rfl sc.nd rfl rfl (by decide) rfl rfl (A8 (C2 Pt (M0 (A8 B6 B1)) (E2 (Q6 K) T.b_len O8 (A8 (pv 0) B1))) (A8 (C2 Pt (M0 (A8 B6 B1)) (E2 (Q6 K) T.b_len O8 (A8 (pv 0) B1))) B1)) rfl)
   (B2 (J9 PassesOwn.never rfl (piL K (pv 1)) (pgT K (n:=2) (D4 (C4 (i:=4) sc.nd rfl (by first | exact Or.inl rfl | exact Or.inr rfl)) (D4 (C4 (i:=5) sc.nd rfl (by first | exact Or.inl rfl | exact Or.inr rfl)) O1)))
   (B2 (Pn (i:=6) (j:=7) rfl sc.nd rfl rfl (by decide) rfl rfl (A8 (Gs K PySem.F.plainAttrs_list PySem.F.slot_list_index PySem.F.type_list_index (Fz K) (pv 0) (A8 (pv 4) B1)) (A8 (Gs K PySem.F.plainAttrs_list PySem.F.slot_list_index PySem.F.type_list_index (Fz K) (pv 0) (A8 (pv 5) B1)) B1)) rfl)
   (B2 (Z9 (C2 U6 (K4 (ixL K) (pv 2) (pv 7) (fun _ _=>rfl)) (C2 y3 B6 (pv 6))) (Ge (pv 2) (pv 7) Y9))
   (B3 (Z9 (C2 U6 (K4 (ixL K) (pv 3) (pv 6) (fun _ _=>rfl)) (C2 y3 B6 (pv 7))) (Ge (pv 3) (pv 6) Y9))))))
   (B3 (C1 (M0 (A8 (pv 0) (A8 (pv 2) (A8 (pv 3) B1))))))))),?_⟩
  refine ex1 rfl ⟨n,ss,rfl,SqL.of hn,fun l ns hl pm srt=>?_⟩
  have nd:ns.Nodup:=pm.nodup_iff.mpr hN.2.1
  have lm:(ns.map V.str).length=ns.length:=List.length_map ..
  have ln:ns.length<=100:=by rw[pm.length_eq];exact hN.2.2
  have s1:Same H (upd H l (.lst (ns.map V.str))):=Same.new hl
  refine⟨by show 1<=sizeLine;decide,fun t1 ht1=>?_⟩
  have s2:=s1.trans (Same.new (o:=.lst [V.int 0]) ht1)
  refine ex1 rfl (B7 (a:=l) rfl (.inl (SqL.of ((Same.new ht1) _ _ A9))) ⟨t1,B7 rfl rfl ⟨A9,by omega,by omega,by rw[lm,Int.toNat_natCast,sizeLine_eq];show 1*ns.length<=_;omega,fun s hs=>?_⟩⟩)
  rw[lm,Gj]
  have hs1:upd H l (.lst (ns.map V.str)) s=none:=(Same.new ht1).free hs
  have hs0:H s=none:=s2.free hs
  have nls:l≠s:=B0 A9 hs1
  have s3:=s2.trans (Same.new (o:=.lst ((List.replicate ns.length 0).map E1)) hs)
  refine⟨by show 1<=sizeLine;decide,fun t2 ht2=>?_⟩
  have s4:=s3.trans (Same.new (o:=.lst [V.int 0]) ht2)
  have el:(upd (upd (upd (upd H l (.lst (ns.map V.str))) t1 (.lst [V.int 0])) s (.lst ((List.replicate ns.length 0).map E1))) t2 (.lst [V.int 0])) l=some (.lst (ns.map V.str)) :=
   (Same.new ht2) _ _ ((Same.new hs) _ _ ((Same.new ht1) _ _ A9))
  have es:(upd (upd (upd (upd H l (.lst (ns.map V.str))) t1 (.lst [V.int 0])) s (.lst ((List.replicate ns.length 0).map E1))) t2 (.lst [V.int 0])) s=some (.lst ((List.replicate ns.length 0).map E1)):=(Same.new ht2) _ _ A9
  generalize hG:upd (upd (upd (upd H l (.lst (ns.map V.str))) t1 (.lst [V.int 0])) s (.lst ((List.replicate ns.length 0).map E1))) t2 (.lst [V.int 0])=H4 at s4 el es⊢
  have et2:H4 t2=some (.lst [V.int 0]):=by rw[<-hG];exact A9
  refine ex1 rfl (B7 (a:=l) rfl (.inl (SqL.of el)) ⟨t2,B7 rfl rfl ⟨et2,by omega,by omega,by rw[lm,Int.toNat_natCast,sizeLine_eq];show 1*ns.length<=_;omega,fun t ht=>?_⟩⟩)
  rw[lm,Gj]
  have nlt:l≠t:=B0 el ht
  have nst:s≠t:=B0 es ht
  have s5:=s4.trans (Same.new (o:=.lst ((List.replicate ns.length 0).map E1)) ht)
  have ht0:H t=none:=s4.free ht
  refine⟨_,ex1 rfl (ex1 rfl ⟨a,rfl,⟨_,SqL.of (s5 _ _ ha)⟩,?_⟩)⟩
  refine T7 (asL (K:=K) (SqL.of ha)) (fun i σ H1=>(∃v4 v5 v6 v7,σ = [some (.ref l),some (.ref a),some (.ref s),some (.ref t),v4,v5,v6,v7])/\Same H H1/\H1 l=some (.lst (ns.map V.str)) /\
   ∃A B:List Nat,H1 s=some (.lst (A.map E1))/\H1 t=some (.lst (B.map E1))/\MB ns ((ps.take i).map fun q=>(q.2.2,q.2.1)) A/\MB ns ((ps.take i).map fun q=>q.2) B) ?_ ?_ ?_ ?_
  ·exact⟨⟨_,_,_,_,rfl⟩,s5,by rw[B5 nlt];exact el,_,_,by rw[B5 nst];exact es,A9,MB.zero ns,MB.zero ns⟩
  ·rintro i σ H1 hi ⟨_,h1,_⟩
   exact h1.at a
  ·rintro i σ H1 v hv ⟨⟨v4,v5,v6,v7,rfl⟩,h1,h2,A,B,h3,h4,h5,h6⟩ D1 hD1 _
   unfold J8 at hv
   rw[List.getElem?_map]at hv
   cases hq:ps[i]? with
   | none=>rw[hq]at hv;cases hv
   | some q =>
    rw[hq]at hv
    cases hv
    have hm:q∈ps:=List.mem_of_getElem? hq
    obtain⟨m1,m2⟩:=hO.nm q hm
    have m1:q.2.1∈ns:=pm.mem_iff.mpr m1
    have m2:q.2.2∈ns:=pm.mem_iff.mpr m2
    obtain⟨j,hj⟩:=List.mem_iff_getElem?.mp m1
    obtain⟨k,hk⟩:=List.mem_iff_getElem?.mp m2
    have lj:j<ns.length:=(List.getElem?_eq_some_iff.mp hj).1
    have lk:k<ns.length:=(List.getElem?_eq_some_iff.mp hk).1
    refine⟨q.1,ex1 rfl ⟨SqT.of (h1 _ _ (hP q hm)),rfl,_,ex1 rfl (B7 rfl rfl ?_)⟩⟩
    refine ex1 rfl ⟨.inl ⟨rfl,_,SqL.of h2⟩,ex1 rfl ⟨l,ns,q.2.1,j,rfl,rfl,SqL.of h2,hj,fun m hm z=>by have:=S2 nd z hj;omega,?_⟩⟩
    refine ex1 rfl ⟨.inl ⟨rfl,_,SqL.of h2⟩,ex1 rfl ⟨l,ns,q.2.2,k,rfl,rfl,SqL.of h2,hk,fun m hm z=>by have:=S2 nd z hk;omega,?_⟩⟩
    refine⟨_,ex1 rfl ?_⟩
    refine ex1 rfl (ex1 rfl ⟨s,_,B7 rfl rfl ⟨SqL.of h3,Bl (by rw[h5.len];exact lk),ex1 rfl (B7 rfl rfl ⟨⟨by omega,by omega,by decide⟩,B7 rfl rfl ?_⟩)⟩⟩)
    dsimp only
    rw[Ti,bor]
    refine ex1 rfl (ex1 rfl ⟨s,_,_,k,rfl,rfl,h3,Nb (by rw[List.length_map,h5.len];exact lk),?_⟩)
    rw[Gv]
    refine ex1 rfl (ex1 rfl ⟨t,_,B7 rfl rfl ⟨SqL.of (by rw[B5 nst.symm];exact h4),Bl (by rw[h6.len];exact lj),ex1 rfl (B7 rfl rfl ⟨⟨by omega,by omega,by decide⟩,B7 rfl rfl ?_⟩)⟩⟩)
    dsimp only
    rw[Ti,bor]
    refine ex1 rfl (ex1 rfl ⟨t,_,_,j,rfl,rfl,by rw[B5 nst.symm];exact h4,Nb (by rw[List.length_map,h6.len];exact lj),?_⟩)
    rw[Gv]
    refine hD1 _ _ ⟨⟨_,_,_,_,rfl⟩,(h1.upd hs0).upd ht0,?_,A.set k (A.getD k 0 ||| 2^j),_,?_,A9,?_,?_⟩
    ·rw[B5 nlt,B5 nls];exact h2
    ·rw[B5 nst,A9]
    ·rw[take_succ hq,List.map_append]
     exact h5.step nd hk hj
    ·rw[take_succ hq,List.map_append]
     exact h6.step nd hj hk
  ·rintro σ H1 ⟨⟨v4,v5,v6,v7,rfl⟩,h1,h2,A,B,h3,h4,h5,h6⟩
   have lr:(J8 ps).length=ps.length:=by unfold J8;rw[List.length_map]
   rw[lr,List.take_length]at h5 h6
   refine ex1 rfl (ex1 rfl (ex1 rfl ⟨by show 3<=sizeLine;decide,fun v hv=>?_⟩))
   have s9:=Same.new (o:=.lst [.ref l,.ref s,.ref t]) hv
   refine q v ns A B _ (h1.free hv) (h1.trans s9) pm srt fun p o hp=>⟨⟨l,s,t,A9,s9 _ _ h2,s9 _ _ h3,s9 _ _ h4,(B0 (h1 _ _ hp) hv).symm,(B0 hp hl).symm,(B0 hp hs0).symm,(B0 hp ht0).symm⟩,?_,h6⟩
   rw[List.map_map]
   exact h5
end
noncomputable def Do(ns:List Str)(m i:Nat):List Str:=(List.range i).filterMap fun k=>if m.testBit k=true then ns[k]? else none
noncomputable def setOf(ns:List Str)(m:Nat):List Str:=Do ns m ns.length
theorem M8{ns:List Str}{m i:Nat}{x:Str}(h:ns[i]?=some x):Do ns m (i+1)=Do ns m i++if m.testBit i=true then [x]else []:=by
 unfold Do
 rw[List.range_succ,List.filterMap_append]
 congr 1
 by_cases e:m.testBit i=true
 ·rw[if_pos e];simp[e,h]
 ·rw[if_neg e];simp[e]
theorem V3(ns:List Str)(m:Nat):∀i,i<=ns.length->(Do ns m i).Sublist (ns.take i)
 | 0,_=>by simp[Do]
 | i+1,h=>by
  have hi:ns[i]?=some ns[i]:=List.getElem?_eq_getElem (by omega)
  rw[M8 hi,take_succ hi]
  refine(V3 ns m i (by omega)).append ?_
  by_cases e:m.testBit i=true
  ·rw[if_pos e];exact List.Sublist.refl _
  ·rw[if_neg e];exact List.nil_sublist _
theorem Cg(ns:List Str)(m:Nat):(setOf ns m).Sublist ns:=by
 have:=V3 ns m ns.length (Nat.le_refl _)
 rwa [List.take_length]at this
section
variable{P:Program}{w:World}{K:PySem.W.Frag}{mg:Str->Option Value}{base:Heap}
theorem V0:FnScope ["_law_view", "_law_mask"] ["_law_view", "_law_mask"] (B4 s_law_set_of):=⟨rfl,rfl,rfl,by decide +kernel,rfl,by decide +kernel,by decide +kernel⟩
noncomputable def Dr:Sp:=fun vs H Q _=>∃(p v:Addr) (m:Nat) (ns:List Str) (ks:List (Str×Str)) (A B:List Nat),vs = [.ref v,.int (m:Int)]/\ViewAt H p v ns ks A B/\ns.length<=100 /\
 ∀l H',H l=none->Same H H'->H' l=some (.lst ((setOf ns m).map V.str))->Q (.ref l) H'
theorem Bs(T:Tx K mg):FnOk P w K mg base CX0 1 T.law_set_of.f T.law_set_of.fd ["_law_view", "_law_mask"] Dr:=by
 have sc:=V0
 refine T.law_set_of.F.ok V0 (fun vs H Q E h=>?_) (fun cdv A outer s H vs Q E hr h=>?_)
 ·obtain⟨p,n,a,ss,ps,A,B,rfl,_⟩:=h
  rfl
 ·obtain⟨p,v,m,ns,ks,A,B,rfl,hV,ln,q⟩:=h
  obtain⟨⟨a,s,t,e1,e2,e3,e4,_⟩,mA,mB⟩:=id hV
  refine⟨_,(B3 (C1 (Q5 (N':=["_law_k", "_law_name", "_law_mask"]) (cap:=[none,none,some 1]) (cl:=[("_law_mask",_)]) (K0 ⟨⟨rfl,rfl,rfl,rfl⟩,trivial⟩ ⟨rfl,trivial⟩) rfl (piE K T.b_enumerate (A8 (K4 (ixL K) (pv 0) B6 (fun _ _=>rfl)) B1)) (fun _ _ _ _=>by exact⟨(pgT K (n:=2) (D4 (pgC 0) (D4 (pgC 1) O1))),(T0 (C8 U1 (C2 M9 (C2 Pq (pv 2) (pv 0)) B6) B6 (E3 _))),(pv 1)⟩)))),?_⟩
  dsimp only[Ve,Wa,T4,Xc,tCB,Mn,Sr]
  refine ex1 rfl ⟨v,_,B7 rfl rfl ⟨SqL.of e1,rfl,a,ex1 rfl ⟨SqL.of e2,fun D hD=>?_⟩⟩⟩
  refine Ai (n:=ns.length) (fun i σ H1=>(∃v0 v1,σ = [v0,v1,some (.int (m:Int))])/\Same H H1/\H1 D=some (.lst ((Do ns m i).map V.str))) ⟨⟨_,_,rfl⟩,Same.new hD,A9⟩ ?_ ?_ ?_ ?_
  ·rintro i σ H1 hi ⟨_,s1,e5⟩
   exact⟨_,_,(s1.at a).seqL (SqL.of e2),by rw[List.getElem?_map,List.getElem?_eq_getElem hi];rfl⟩
  ·rintro σ H1 ⟨_,s1,e5⟩
   exact⟨_,(s1.at a).seqL (SqL.of e2),by rw[List.length_map]⟩
  ·rintro i σ H1 x H' N hi ⟨⟨v0,v1,rfl⟩,s1,e5⟩ ⟨t,x,rfl,ht,rfl,hx⟩ hN
   have hx:=hx _ ((s1.at a).seqL (SqL.of e2))
   have hi':ns[i]?=some ns[i]:=List.getElem?_eq_getElem hi
   rw[List.getElem?_map,hi']at hx
   cases hx
   refine⟨t,ex1 rfl ⟨SqT.of A9,rfl,_,ex1 rfl (B7 rfl rfl ?_)⟩⟩
   have nDt:D≠t:=B0 e5 ht
   have s2:Same H (upd H1 t (.tup [.int i,.str ns[i]])):=s1.trans (Same.new ht)
   refine ex1 rfl (ex1 rfl (B7 rfl rfl ⟨(show(0:Int)<=(i:Int) by omega),B7 rfl rfl ⟨rfl,ex1 rfl ?_⟩⟩))
   dsimp only
   rw[Pu]
   have hle:=(V3 ns m i (by omega)).length_le
   rw[List.length_take]at hle
   refine V8 (fun hb=>?_) (fun hb=>?_)
   ·refine ex1 rfl ⟨_,by rw[B5 nDt];exact e5,by rw[List.length_map,sizeLine_eq];omega,hN _ _ ⟨⟨_,_,rfl⟩,s2.upd hD,?_⟩⟩
    rw[A9,M8 hi',if_pos hb,List.map_append];rfl
   ·refine hN _ _ ⟨⟨_,_,rfl⟩,s2,?_⟩
    rw[B5 nDt,M8 hi',if_neg hb,List.append_nil];exact e5
  ·rintro σ H1 ⟨_,s1,e5⟩
   exact q D H1 hD s1 e5
end
noncomputable def Ch(B:List Nat)(m j:Nat):Prop:=∃k,m.testBit k=true/\(B.getD k 0).testBit j=true
noncomputable def O0(n:Nat)(A B:List Nat)(m j:Nat):Prop:=j<n/\∀b,(A.getD j 0).testBit b=true->Ch B m b
noncomputable def QuietB(B:List Nat)(m:Nat):Prop:=∀i j,m.testBit i=true->m.testBit j=true->¬(B.getD i 0).testBit j=true
theorem P3(a h:Nat):decide (V.int (Builtin.bitAnd (a:Int) (Builtin.bitNot (h:Int)))=V.int 0)=true↔∀b,a.testBit b=true->h.testBit b=true:=by
 rw[decide_eq_true_iff,PyProof.Rows.bitAnd_not,Qk]
 constructor
 ·intro e b hb
  injection e with e
  have e:a=a &&& h:=by omega
  rw[e,Nat.testBit_and,Bool.and_eq_true]at hb
  exact hb.2
 ·intro k
  have e:a &&& h=a:=Nat.eq_of_testBit_eq fun b=>by
   rw[Nat.testBit_and]
   cases hb:a.testBit b with
   | false=>rfl
   | true=>rw[k b hb];rfl
  rw[e,Int.sub_self]
theorem Oh(a m:Nat):decide (V.int (Builtin.bitAnd (a:Int) (m:Int))=V.int 0)=true↔∀b,a.testBit b=true->¬m.testBit b=true:=by
 rw[decide_eq_true_iff,Qk]
 constructor
 ·intro e b hb hm
  injection e with e
  have e:a &&& m=0:=by omega
  have:(a &&& m).testBit b=true:=by rw[Nat.testBit_and,hb,hm];rfl
  rw[e,Nat.zero_testBit]at this
  cases this
 ·intro k
  have e:a &&& m=0:=Nat.eq_of_testBit_eq fun b=>by
   rw[Nat.testBit_and,Nat.zero_testBit]
   cases hb:a.testBit b with
   | false=>rfl
   | true =>
    have:=k b hb
    cases hm:m.testBit b with
    | false=>rfl
    | true=>exact absurd hm this
  rw[e]
  rfl
theorem n6(d k j:Nat):(d ||| 2^k).testBit j=true↔d.testBit j=true\/j=k:=by
 rw[Nat.testBit_or,Bool.or_eq_true,Nat.testBit_two_pow,decide_eq_true_iff]
 exact⟨fun h=>h.imp id Eq.symm,fun h=>h.imp id Eq.symm⟩
section
variable{P:Program}{w:World}{K:PySem.W.Frag}{mg:Str->Option Value}{base:Heap}
theorem z9:FnScope ["_law_view", "_law_mask", "_law_hit_here", "_law_k"] ["_law_view", "_law_mask"] (B4 s_law_hit):=⟨rfl,rfl,rfl,by decide +kernel,rfl,by decide +kernel,by decide +kernel⟩
noncomputable def Kl:Sp:=fun vs H Q _=>∃(p v:Addr) (m:Nat) (ns:List Str) (ks:List (Str×Str)) (A B:List Nat),vs = [.ref v,.int (m:Int)]/\ViewAt H p v ns ks A B/\ns.length<=100 /\
 ∀h:Nat,(∀j,h.testBit j=true↔Ch B m j)->Q (.int (h:Int)) H
theorem y6(T:Tx K mg):FnOk P w K mg base CX0 1 T.law_hit.f T.law_hit.fd ["_law_view", "_law_mask"] Kl:=by
 have sc:=z9
 refine T.law_hit.F.ok z9 (fun vs H Q E h=>?_) (fun cdv A outer s H vs Q E hr h=>?_)
 ·obtain⟨p,n,a,ss,ps,A,B,rfl,_⟩:=h
  rfl
 ·obtain⟨p,v,m,ns,ks,A,B,rfl,hV,ln,q⟩:=h
  obtain⟨⟨a,s,t,e1,e2,e3,e4,_⟩,mA,mB⟩:=id hV
  refine⟨_,(B2 (C6 (i:=2) sc.nd rfl (by first | exact Or.inl rfl | exact Or.inr rfl) B6)
   (B2 (J9 PassesOwn.never rfl (Tf T.b_range (A8 (E2 (Q6 K) T.b_len O8 (A8 (K4 (ixL K) (pv 0) B6 (fun _ _=>rfl)) B1)) B1)) (C4 (i:=3) sc.nd rfl (by first | exact Or.inl rfl | exact Or.inr rfl))
   (B3 (J7 (C8 U1 (C2 M9 (C2 Pq (pv 1) (pv 3)) B6) B6 (E3 _)) (B3 (C6 (i:=2) sc.nd rfl (by first | exact Or.inl rfl | exact Or.inr rfl) (C2 U6 (pv 2) (K4 (ixL K) (K4 (ixL K) (pv 0) B6 (fun _ _=>rfl)) (pv 3) (fun _ _=>rfl))))) D0)))
   (B3 (C1 (pv 2))))),?_⟩
  refine ex1 rfl ⟨v,_,B7 rfl rfl ⟨SqL.of e1,rfl,B7 (a:=a) rfl (.inl (SqL.of e2)) (ex1 rfl ⟨?_,?_,?_⟩)⟩⟩
  ·omega
  ·rw[List.length_map];omega
  rw[List.length_map,Int.toNat_natCast]
  refine J5 (fun i σ H1=>H1=H/\∃(h:Nat) (v3:Option V),σ = [some (.ref v),some (.int (m:Int)),some (.int (h:Int)),v3]/\∀j,h.testBit j=true↔∃k,k<i/\m.testBit k=true/\(B.getD k 0).testBit j=true) ?_ ?_ ?_
  ·exact⟨rfl,0,_,rfl,fun j=>by rw[Nat.zero_testBit];simp⟩
  ·rintro i σ H1 hi ⟨rfl,h,v3,rfl,hh⟩ D1 hD1 _
   rw[Int.zero_add]
   refine ex1 rfl (ex1 rfl (B7 rfl rfl ⟨(show(0:Int)<=(i:Int) by omega),B7 rfl rfl ⟨rfl,ex1 rfl ?_⟩⟩))
   dsimp only
   rw[Pu]
   refine V8 (fun hb=>?_) (fun hb=>?_)
   ·refine ex1 rfl (ex1 rfl ⟨v,_,B7 rfl rfl ⟨SqL.of e1,rfl,ex1 rfl ⟨t,_,B7 rfl rfl ⟨SqL.of e4,Bl (by rw[mB.len];exact hi),B7 rfl rfl ?_⟩⟩⟩⟩)
    dsimp only
    rw[bor]
    refine hD1 _ _ ⟨rfl,_,_,rfl,fun j=>?_⟩
    rw[Nat.testBit_or,Bool.or_eq_true,hh]
    constructor
    ·rintro(⟨k,h1,h2⟩ | h2)
     ·exact⟨k,by omega,h2⟩
     ·exact⟨i,by omega,hb,h2⟩
    ·rintro⟨k,h1,h2⟩
     by_cases e:k=i
     ·rw[e]at h2;exact .inr h2.2
     ·exact .inl ⟨k,by omega,h2⟩
   ·refine hD1 _ _ ⟨rfl,h,_,rfl,fun j=>?_⟩
    rw[hh]
    constructor
    ·rintro⟨k,h1,h2⟩
     exact⟨k,by omega,h2⟩
    ·rintro⟨k,h1,h2⟩
     by_cases e:k=i
     ·rw[e]at h2;exact absurd h2.1 hb
     ·exact⟨k,by omega,h2⟩
  ·rintro σ H1 ⟨rfl,h,v3,rfl,hh⟩
   refine ex1 rfl (q h fun j=>?_)
   rw[hh]
   constructor
   ·rintro⟨k,h1,h2⟩
    exact⟨k,h2⟩
   ·rintro⟨k,h1,h2⟩
    refine⟨k,?_,h1,h2⟩
    obtain⟨z,_,hz,_⟩:=(mB.bit k j).mp h2
    exact(List.getElem?_eq_some_iff.mp hz).1
theorem g7:FnScope ["_law_view", "_law_mask", "_law_hit_here", "_law_kept_here", "_law_k"] ["_law_view", "_law_mask"] (B4 s_law_kept):=⟨rfl,rfl,rfl,by decide +kernel,rfl,by decide +kernel,by decide +kernel⟩
noncomputable def Fp:Sp:=fun vs H Q _=>∃(p v:Addr) (m:Nat) (ns:List Str) (ks:List (Str×Str)) (A B:List Nat),vs = [.ref v,.int (m:Int)]/\ViewAt H p v ns ks A B/\ns.length<=100 /\
 ∀h:Nat,(∀j,h.testBit j=true↔O0 ns.length A B m j)->Q (.int (h:Int)) H
theorem r8(T:Tx K mg):FnOk P w K mg base CX0 2 T.law_kept.f T.law_kept.fd ["_law_view", "_law_mask"] Fp:=by
 have G_law_hit:FnOk P w K mg base CX0 1 T.law_hit.f T.law_hit.fd ["_law_view", "_law_mask"] Kl:=y6 T
 have sc:=g7
 refine T.law_kept.F.ok g7 (fun vs H Q E h=>?_) (fun cdv A outer s H vs Q E hr h=>?_)
 ·obtain⟨p,n,a,ss,ps,A,B,rfl,_⟩:=h
  rfl
 ·obtain⟨p,v,m,ns,ks,A,B,rfl,hV,ln,q⟩:=h
  obtain⟨⟨a,s,t,e1,e2,e3,e4,_⟩,mA,mB⟩:=id hV
  refine⟨_,(B2 (C6 (i:=2) sc.nd rfl (by first | exact Or.inl rfl | exact Or.inr rfl) (D9 T.law_hit G_law_hit (hr.mono (by decide)) (A8 (pv 0) (A8 (pv 1) B1))))
   (B2 (C6 (i:=3) sc.nd rfl (by first | exact Or.inl rfl | exact Or.inr rfl) B6)
   (B2 (J9 PassesOwn.never rfl (Tf T.b_range (A8 (E2 (Q6 K) T.b_len O8 (A8 (K4 (ixL K) (pv 0) B6 (fun _ _=>rfl)) B1)) B1)) (C4 (i:=4) sc.nd rfl (by first | exact Or.inl rfl | exact Or.inr rfl))
   (B3 (J7 (C8 U1 (C2 M9 (K4 (ixL K) (K4 (ixL K) (pv 0) B6 (fun _ _=>rfl)) (pv 4) (fun _ _=>rfl)) (Oo Kp (pv 2))) B6 (E3 _)) (B3 (C6 (i:=3) sc.nd rfl (by first | exact Or.inl rfl | exact Or.inr rfl) (C2 U6 (pv 3) (C2 y3 B6 (pv 4))))) D0)))
   (B3 (C1 (pv 3)))))),?_⟩
  refine ex1 rfl (ex1 rfl (Qz (a:=p) (b:=v) (c:=m) (d:=ns) (e:=ks) (f:=A) (g:=B) rfl hV ln fun hit hhit=>?_))
  refine ex1 rfl ⟨v,_,B7 rfl rfl ⟨SqL.of e1,rfl,B7 (a:=a) rfl (.inl (SqL.of e2)) (ex1 rfl ⟨?_,?_,?_⟩)⟩⟩
  ·omega
  ·rw[List.length_map];omega
  rw[List.length_map,Int.toNat_natCast]
  refine J5 (fun i σ H1=>H1=H/\∃(h:Nat) (v3:Option V),σ = [some (.ref v),some (.int (m:Int)),some (.int (hit:Int)),some (.int (h:Int)),v3]/\∀j,h.testBit j=true↔O0 i A B m j) ?_ ?_ ?_
  ·exact⟨rfl,0,_,rfl,fun j=>by rw[Nat.zero_testBit];exact⟨fun z=>(by cases z),fun z=>absurd z.1 (Nat.not_lt_zero _)⟩⟩
  ·rintro i σ H1 hi ⟨rfl,h,v3,rfl,hh⟩ D1 hD1 _
   rw[Int.zero_add]
   refine ex1 rfl ⟨v,_,B7 rfl rfl ⟨SqL.of e1,rfl,ex1 rfl ⟨s,_,B7 rfl rfl ⟨SqL.of e3,Bl (by rw[mA.len];exact hi),ex1 rfl (ex1 rfl (B7 rfl rfl ⟨rfl,ex1 rfl ?_⟩))⟩⟩⟩⟩
   dsimp only
   have ek:=P3 (A.getD i 0) hit
   refine V8 (fun hb=>?_) (fun hb=>?_)
   ·refine ex1 rfl (ex1 rfl (B7 rfl rfl ⟨⟨by omega,by omega,by decide⟩,B7 rfl rfl ?_⟩))
    dsimp only
    rw[Ti,bor]
    refine hD1 _ _ ⟨rfl,_,_,rfl,fun j=>?_⟩
    rw[n6,hh]
    constructor
    ·rintro(⟨h1,h2⟩ | rfl)
     ·exact⟨by omega,h2⟩
     ·exact⟨by omega,fun b hb'=>(hhit b).mp (ek.mp hb b hb')⟩
    ·rintro⟨h1,h2⟩
     by_cases e:j=i
     ·exact .inr e
     ·exact .inl ⟨by omega,h2⟩
   ·refine hD1 _ _ ⟨rfl,h,_,rfl,fun j=>?_⟩
    rw[hh]
    constructor
    ·rintro⟨h1,h2⟩
     exact⟨by omega,h2⟩
    ·rintro⟨h1,h2⟩
     by_cases e:j=i
     ·subst e
      exact absurd (ek.mpr fun b hb'=>(hhit b).mpr (h2 b hb')) hb
     ·exact⟨by omega,h2⟩
  ·rintro σ H1 ⟨rfl,h,v3,rfl,hh⟩
   exact⟨_,rfl,q h hh⟩
theorem Q3:FnScope ["_law_view", "_law_mask"] ["_law_view", "_law_mask"] (B4 s_law_is_quiet):=⟨rfl,rfl,rfl,by decide +kernel,rfl,by decide +kernel,by decide +kernel⟩
noncomputable def j4:Sp:=fun vs H Q _=>∃(p v:Addr) (m:Nat) (ns:List Str) (ks:List (Str×Str)) (A B:List Nat),vs = [.ref v,.int (m:Int)]/\ViewAt H p v ns ks A B/\ns.length<=100 /\
 ∀b:Bool,(b=true↔QuietB B m)->Q (.bl b) H
theorem P5(T:Tx K mg):FnOk P w K mg base CX0 2 T.law_is_quiet.f T.law_is_quiet.fd ["_law_view", "_law_mask"] j4:=by
 have G_law_hit:FnOk P w K mg base CX0 1 T.law_hit.f T.law_hit.fd ["_law_view", "_law_mask"] Kl:=y6 T
 have sc:=Q3
 refine T.law_is_quiet.F.ok Q3 (fun vs H Q E h=>?_) (fun cdv A outer s H vs Q E hr h=>?_)
 ·obtain⟨p,n,a,ss,ps,A,B,rfl,_⟩:=h
  rfl
 ·obtain⟨p,v,m,ns,ks,A,B,rfl,hV,ln,q⟩:=h
  refine⟨_,(B3 (C1 (O3 U1 (C2 M9 (D9 T.law_hit G_law_hit (hr.mono (by decide)) (A8 (pv 0) (A8 (pv 1) B1))) (pv 1)) B6 (E3 _)))),?_⟩
  refine ex1 rfl (ex1 rfl (Qz (a:=p) (b:=v) (c:=m) (d:=ns) (e:=ks) (f:=A) (g:=B) rfl hV ln fun hit hhit=>?_))
  refine ex1 rfl (B7 rfl rfl ⟨rfl,?_⟩)
  refine q _ ?_
  dsimp only
  rw[Oh]
  constructor
  ·intro h i j hi hj hb
   exact h j ((hhit j).mpr ⟨i,hi,hb⟩) hj
  ·intro h j hj hm
   obtain⟨i,hi,hb⟩:=(hhit j).mp hj
   exact h i j hi hm hb
end
noncomputable def sd(ss:List Str):PyData:=.list (ss.map PyData.str)
theorem Gr{K:PySem.W.Frag}{H:Hp}:∀ss:List Str,Rps K H (ss.map PyData.str) (ss.map V.str)
 | []=>by simp[Rps]
 | x::r=>by
  simp only[List.map_cons,Rps,Rp]
  exact⟨_,_,rfl,rfl,Gr r⟩
theorem Et{K:PySem.W.Frag}{H:Hp}{l:Addr}{ss:List Str}(h:SqL K H l (ss.map V.str)):Rp K H (sd ss) (.ref l):=by
 unfold sd
 simp only[Rp]
 exact⟨l,_,rfl,h,Gr ss⟩
theorem X1:∀ss:List Str,PyData.depthAll (ss.map PyData.str)<=1
 | []=>by simp[PyData.depthAll]
 | x::r=>by
  have:=X1 r
  simp only[List.map_cons,PyData.depthAll,PyData.depth]
  omega
theorem n9:∀ps:List PA2,PyData.depthAll (ps.map fun q=>pd q.2)<=3
 | []=>by simp[PyData.depthAll]
 | x::r=>by
  have:=n9 r
  have e:(pd x.2).depth<=3:=by simp[pd,PyData.depth,PyData.depthAll]
  rw[List.map_cons,PyData.depthAll]
  omega
theorem Fu:∀{ss:List Str},(∀x∈ss,PySem.PyData.strOk x=true)->PyData.canLayAll0 (ss.map PyData.str)=true
 | [],_=>rfl
 | x::r,h=>by
  rw[List.map_cons,PyData.canLayAll0,Fu fun z hz=>h z (List.mem_cons_of_mem _ hz)]
  simp[PyData.canLay0,h x (List.mem_cons_self ..)]
theorem Kj{ss:List Str}(h:∀x∈ss,K3 x=true):Pl (sd ss):=by
 refine⟨?_,?_⟩
 ·unfold sd
  rw[PyData.canLay0]
  exact Fu fun x hx=>Y8 (h x hx)
 ·unfold sd
  rw[PyData.depth]
  have:=X1 ss
  omega
theorem Pc{ps:List PA2}(h:∀q∈ps,K3 q.2.1=true/\K3 q.2.2=true):Pl (.list (ps.map fun q=>pd q.2)):=by
 refine⟨?_,?_⟩
 ·rw[PyData.canLay0]
  exact Ei fun q hq=>⟨Y8 (h q hq).1,Y8 (h q hq).2⟩
 ·rw[PyData.depth]
  have:=n9 ps
  omega
theorem Eh{K:PySem.W.Frag}{x y:V}{d:PyData}{H:Hp}{Q:VK}(h1:Rp K H d x)(h2:Rp K H d y)(p:Pl d)(q:Q (.bl false) H):Ww K x y H Q :=
 ⟨d,d,h1,h2,p,p,by rw[PySem.SeqAt.eqv_refl d p.1];exact q⟩
theorem Na:∀(j a b:Nat),(∀j,a.testBit j=true->¬b.testBit j=true)->(a+b).testBit j =(a.testBit j||b.testBit j)
 | 0,a,b,h=>by
  have h0:=h 0
  rw[Nat.testBit_zero,Nat.testBit_zero,decide_eq_true_iff,decide_eq_true_iff]at h0
  rw[Nat.testBit_zero,Nat.testBit_zero,Nat.testBit_zero,<-Bool.decide_or]
  exact decide_eq_decide.mpr ⟨fun z=>by omega,fun z=>by omega⟩
 | j+1,a,b,h=>by
  have h0:=h 0
  rw[Nat.testBit_zero,Nat.testBit_zero,decide_eq_true_iff,decide_eq_true_iff]at h0
  rw[Nat.testBit_succ,Nat.testBit_succ,Nat.testBit_succ,show(a+b) / 2=a / 2+b / 2 by omega]
  exact Na j (a / 2) (b / 2) fun i=>by have:=h (i+1);rw[Nat.testBit_succ,Nat.testBit_succ]at this;exact this
theorem Ef:∀{l:List Nat},l.Nodup->∀j,((l.map fun k=>2^k).sum).testBit j=true↔j∈l
 | [],_,j=>by simp
 | k::l,nd,j=>by
  obtain⟨n1,n2⟩:=List.nodup_cons.mp nd
  have ih:=Ef n2
  rw[List.map_cons,List.sum_cons,Nat.add_comm,Na j _ _ fun i z y=>?_,Bool.or_eq_true,ih,Nat.testBit_two_pow,decide_eq_true_iff,List.mem_cons]
  rotate_left
  ·rw[Nat.testBit_two_pow,decide_eq_true_iff]at y
   exact n1 (y▸(ih i).mp z)
  exact⟨fun h=>h.elim .inr fun e=>.inl e.symm,fun h=>h.elim (fun e=>.inr e.symm) .inl⟩
theorem Sx:∀(s:Nat),0<s->∃k,s.testBit k=true/\s-(s &&&(s-1))=2^k:=by
 intro s
 induction s using Nat.strongRecOn with
 | _ s ih =>
  intro h
  by_cases o:s % 2=1
  ·refine⟨0,by rw[Nat.testBit_zero];exact decide_eq_true o,?_⟩
   have e:s &&&(s-1)=s-1:=Nat.eq_of_testBit_eq fun i=>by
    rw[Nat.testBit_and]
    cases i with
    | zero=>rw[Nat.testBit_zero,Nat.testBit_zero,decide_eq_false (by omega:¬(s-1) % 2=1),Bool.and_false]
    | succ i=>rw[Nat.testBit_succ,Nat.testBit_succ,show(s-1) / 2=s / 2 by omega,Bool.and_self]
   rw[e]
   omega
  ·obtain⟨k,h1,h2⟩:=ih (s / 2) (by omega) (by omega)
   refine⟨k+1,by rw[Nat.testBit_succ];exact h1,?_⟩
   have e:s &&&(s-1)=2 *(s / 2 &&&(s / 2-1)):=Nat.eq_of_testBit_eq fun i=>by
    rw[Nat.testBit_and]
    cases i with
    | zero=>rw[Nat.testBit_zero,Nat.testBit_zero,decide_eq_false o,Bool.false_and,Nat.testBit_zero,decide_eq_false (by omega)]
    | succ i=>rw[Nat.testBit_succ,Nat.testBit_succ,Nat.testBit_succ,Nat.mul_div_cancel_left _ (by decide),Nat.testBit_and,show(s-1) / 2=s / 2-1 by omega]
   have:s / 2 &&&(s / 2-1)<=s / 2:=Nat.and_le_left
   rw[e,Nat.pow_succ]
   omega
noncomputable def Low(n m:Nat):Prop:=∀j,m.testBit j=true->j<n
theorem Low.or{n m k:Nat}(h:Low n m)(hk:k<n):Low n (m ||| 2^k):=fun j hj=>((n6 m k j).mp hj).elim (h j) fun e=>by omega
theorem Low.zero(n:Nat):Low n 0:=fun j hj=>by rw[Nat.zero_testBit]at hj;cases hj
theorem Low.lt{n m:Nat}(h:Low n m):m<2^n:=Nat.lt_pow_two_of_testBit m fun i hi=>Bool.eq_false_iff.mpr fun z=>by have:=h i z;omega
structure Net(n:Nat)(A B:List Nat):Prop where
 tr:∀i j,(A.getD i 0).testBit j=true↔(B.getD j 0).testBit i=true
 lt:∀i j,(B.getD i 0).testBit j=true->i<n/\j<n
theorem MB.net{ns:List Str}{ks:List (Str×Str)}{A B:List Nat}(a:MB ns (ks.map fun k=>(k.2,k.1)) A)(b:MB ns ks B):Net ns.length A B:=by
 refine⟨fun i j=>?_,fun i j h=>?_⟩
 ·rw[a.bit,b.bit]
  constructor
  ·rintro⟨_,hk,h1,h2⟩
   obtain⟨k,hk',rfl⟩:=List.mem_map.mp hk
   exact⟨k,hk',h2,h1⟩
  ·rintro⟨k,hk,h1,h2⟩
   exact⟨_,List.mem_map.mpr ⟨k,hk,rfl⟩,h2,h1⟩
 ·obtain⟨k,_,h1,h2⟩:=(b.bit i j).mp h
  exact⟨(List.getElem?_eq_some_iff.mp h1).1,(List.getElem?_eq_some_iff.mp h2).1⟩
noncomputable def StandM(n:Nat)(A B:List Nat)(m:Nat):Prop:=Low n m/\QuietB B m/\∀j,m.testBit j=true->O0 n A B m j
noncomputable def Fits(c b m:Nat):Prop:=(∀j,c.testBit j=true->m.testBit j=true)/\∀j,m.testBit j=true->¬b.testBit j=true
noncomputable def Sub(c c':Nat):Prop:=∀j,c.testBit j=true->c'.testBit j=true
theorem Fits.mono{c c' b b' m:Nat}(h:Fits c' b' m)(hc:Sub c c')(hb:Sub b b'):Fits c b m:=⟨fun j z=>h.1 j (hc j z),fun j z y=>h.2 j z (hb j y)⟩
noncomputable def Mg(n:Nat)(A B:List Nat)(c b:Nat):Prop:=(∀j,Ch B c j->b.testBit j=true)/\(∀j,Ch A c j->b.testBit j=true) /\
 ∀i j,i<n->(¬∃k,k<n/\¬b.testBit k=true/\(B.getD k 0).testBit i=true)->(B.getD i 0).testBit j=true->b.testBit j=true
theorem Md{n:Nat}{A B:List Nat}(N:Net n A B){c b m:Nat}(h:StandM n A B m)(f:Fits c b m):(∀j,Ch B c j->¬m.testBit j=true)/\(∀j,Ch A c j->¬m.testBit j=true) /\
  ∀i j,i<n->(¬∃k,k<n/\¬b.testBit k=true/\(B.getD k 0).testBit i=true)->(B.getD i 0).testBit j=true->¬m.testBit j=true:=by
 obtain⟨lo,qu,kp⟩:=h
 refine⟨fun j ⟨k,hk,e⟩ z=>qu k j (f.1 k hk) z e,fun j ⟨k,hk,e⟩ z=>qu j k z (f.1 k hk) ((N.tr k j).mp e),fun i j hi nk e z=>?_⟩
 obtain⟨k,hk,e'⟩:=(kp j z).2 i ((N.tr j i).mpr e)
 exact nk ⟨k,lo k hk,f.2 k hk,e'⟩
theorem Hx{n:Nat}{A B:List Nat}(N:Net n A B){c b:Nat}(lo:Low n c)(s:Mg n A B c b)(dis:∀j,c.testBit j=true->¬b.testBit j=true)(all:∀j,j<n->c.testBit j=true\/b.testBit j=true):StandM n A B c:=by
 obtain⟨s1,s2,s3⟩:=s
 refine⟨lo,fun i j hi hj e=>dis j hj (s1 j ⟨i,hi,e⟩),fun j hj=>⟨lo j hj,fun x hx=>?_⟩⟩
 have hx':=(N.tr j x).mp hx
 by_cases hh:Ch B c x
 ·exact hh
 ·refine absurd (s3 x j (N.lt x j hx').1 (fun⟨k,hk,nb,e⟩=>hh ⟨k,(all k hk).resolve_right nb,e⟩) hx') (dis j hj)
theorem Lg{n c b m:Nat}(lo:Low n m)(all:∀j,j<n->c.testBit j=true\/b.testBit j=true)(f:Fits c b m):m=c:=Nat.eq_of_testBit_eq fun j=>by
 rw[Bool.eq_iff_iff]
 exact⟨fun h=>(all j (lo j h)).resolve_right (f.2 j h),f.1 j⟩
theorem fits_or{c b m k:Nat}:Fits (c ||| 2^k) b m↔Fits c b m/\m.testBit k=true:=by
 constructor
 ·rintro⟨h1,h2⟩
  exact⟨⟨fun j z=>h1 j (by rw[Nat.testBit_or,z];rfl),h2⟩,h1 k (by rw[Nat.testBit_or,Nat.testBit_two_pow_self,Bool.or_true])⟩
 ·rintro⟨⟨h1,h2⟩,h3⟩
  exact⟨fun j z=>((n6 c k j).mp z).elim (h1 j) fun e=>e▸h3,h2⟩
theorem fits_bar{c b m k:Nat}:Fits c (b ||| 2^k) m↔Fits c b m/\¬m.testBit k=true:=by
 constructor
 ·rintro⟨h1,h2⟩
  exact⟨⟨h1,fun j z y=>h2 j z (by rw[Nat.testBit_or,y];rfl)⟩,fun z=>h2 k z (by rw[Nat.testBit_or,Nat.testBit_two_pow_self,Bool.or_true])⟩
 ·rintro⟨⟨h1,h2⟩,h3⟩
  exact⟨h1,fun j z y=>((n6 b k j).mp y).elim (h2 j z) fun e=>h3 (e▸z)⟩
noncomputable def und(n c b:Nat):Nat:=(List.range n).countP fun i=>!c.testBit i&&!b.testBit i
theorem Oy{n c c' b b':Nat}(hc:Sub c c')(hb:Sub b b'):und n c' b'<=und n c b:=List.countP_mono_left fun i _ h=>by
 rw[Bool.and_eq_true,Bool.not_eq_true',Bool.not_eq_true']at h⊢
 exact⟨Bool.eq_false_iff.mpr fun z=>Bool.eq_false_iff.mp h.1 (hc i z),Bool.eq_false_iff.mpr fun z=>Bool.eq_false_iff.mp h.2 (hb i z)⟩
theorem Qe{n c c' b b' k:Nat}(hc:Sub c c')(hb:Sub b b')(hk:k<n)(h0:¬c.testBit k=true/\¬b.testBit k=true)(h1:c'.testBit k=true\/b'.testBit k=true):und n c' b' < und n c b:=by
 unfold und
 have hm:=List.mem_range.mpr hk
 obtain⟨l1,l2,e⟩:=List.append_of_mem hm
 rw[e,List.countP_append,List.countP_append,List.countP_cons,List.countP_cons]
 have m1:=fun l:List Nat=>List.countP_mono_left (l:=l) (p:=fun i=>!c'.testBit i&&!b'.testBit i) (q:=fun i=>!c.testBit i&&!b.testBit i) fun i _ h=>by
  rw[Bool.and_eq_true,Bool.not_eq_true',Bool.not_eq_true']at h⊢
  exact⟨Bool.eq_false_iff.mpr fun z=>Bool.eq_false_iff.mp h.1 (hc i z),Bool.eq_false_iff.mpr fun z=>Bool.eq_false_iff.mp h.2 (hb i z)⟩
 have a1:=m1 l1
 have a2:=m1 l2
 have x1:(!c'.testBit k&&!b'.testBit k)=false:=by
  rcases h1 with h | h<;>rw[h]<;>simp
 have x2:(!c.testBit k&&!b.testBit k)=true:=by
  rw[Bool.eq_false_iff.mpr h0.1,Bool.eq_false_iff.mpr h0.2];rfl
 rw[x1,x2,if_neg (by decide),if_pos rfl]
 omega
noncomputable def chs:Nat->List (List Nat)
 | 0=>[[0]]
 | n+1=>((chs n).flatMap fun c=>[c ++(c.getLast?.map fun m=>m ||| 2^n).toList,c.dropLast.map fun m=>m ||| 2^n]).filter fun c=>!c.isEmpty
theorem i6:∀n m,Low n m->∃c∈chs n,m∈c
 | 0,m,h=>⟨[0],List.mem_singleton.mpr rfl,by
  have:m=0:=Nat.eq_of_testBit_eq fun j=>by rw[Nat.zero_testBit];exact Bool.eq_false_iff.mpr fun z=>absurd (h j z) (Nat.not_lt_zero _)
  rw[this];exact List.mem_singleton.mpr rfl⟩
 | n+1,m,h=>by
  have put:∀c d,c∈chs n->d∈[c ++(c.getLast?.map fun m=>m ||| 2^n).toList,c.dropLast.map fun m=>m ||| 2^n]->m∈d->∃c∈chs (n+1),m∈c:=fun c d hc hd hm=>by
   refine⟨d,List.mem_filter.mpr ⟨List.mem_flatMap.mpr ⟨c,hc,hd⟩,?_⟩,hm⟩
   cases d with
   | nil=>exact absurd hm List.not_mem_nil
   | cons _ _=>rfl
  by_cases cn:m.testBit n=true
  ·have lo:Low n (m % 2^n):=fun j z=>by
    rw[Nat.testBit_mod_two_pow,Bool.and_eq_true,decide_eq_true_iff]at z
    exact z.1
   have e:m % 2^n ||| 2^n=m:=Nat.eq_of_testBit_eq fun j=>by
    rw[Nat.testBit_or,Nat.testBit_mod_two_pow,Nat.testBit_two_pow,Bool.eq_iff_iff,Bool.or_eq_true,Bool.and_eq_true,decide_eq_true_iff,decide_eq_true_iff]
    constructor
    ·rintro(⟨_,z⟩ | rfl)
     ·exact z
     ·exact cn
    ·intro z
     by_cases cj:j<n
     ·exact .inl ⟨cj,z⟩
     ·have:=h j z
      exact .inr (by omega)
   obtain⟨c,hc,hm⟩:=i6 n _ lo
   have ne:c≠[]:=fun z=>by rw[z]at hm;exact absurd hm List.not_mem_nil
   rw[<-List.dropLast_concat_getLast ne]at hm
   rcases List.mem_append.mp hm with hm | hm
   ·exact put c _ hc (List.mem_cons_of_mem _ (List.mem_singleton.mpr rfl)) (List.mem_map.mpr ⟨_,hm,e⟩)
   ·refine put c _ hc (List.mem_cons_self ..) (List.mem_append_right _ ?_)
    rw[List.getLast?_eq_getLast ne]
    rw[List.mem_singleton]at hm
    rw[hm]at e
    simp only[Option.map_some,Option.toList_some,List.mem_singleton]
    exact e.symm
  ·have lo:Low n m:=fun j z=>by
    have:=h j z
    rcases Nat.lt_or_ge j n with y | y
    ·exact y
    ·exact absurd (show m.testBit n=true by rw[show n=j by omega];exact z) cn
   obtain⟨c,hc,hm⟩:=i6 n m lo
   exact put c _ hc (List.mem_cons_self ..) (List.mem_append_left _ hm)
theorem Vg{a b n:Nat}(h:Sub a b):Sub (a ||| 2^n) (b ||| 2^n):=fun j z=>by
 rw[Nat.testBit_or,Bool.or_eq_true]at z⊢
 exact z.imp (h j) id
theorem Hd:∀n,∀c∈chs n,c.Pairwise Sub
 | 0,c,h=>by rw[List.mem_singleton.mp h];exact List.pairwise_singleton _ _
 | n+1,d,h=>by
  obtain⟨c,hc,hd⟩:=List.mem_flatMap.mp (List.mem_filter.mp h).1
  have ih:=Hd n c hc
  rcases List.mem_cons.mp hd with rfl | hd
  ·refine List.pairwise_append.mpr ⟨ih,?_,fun a ha b hb=>?_⟩
   ·cases c.getLast?<;>simp
   ·cases hl:c.getLast? with
    | none=>rw[hl]at hb;simp at hb
    | some l =>
     rw[hl]at hb
     simp only[Option.map_some,Option.toList_some,List.mem_singleton]at hb
     subst hb
     have ne:c≠[]:=fun z=>by rw[z]at ha;exact absurd ha List.not_mem_nil
     have el:c.getLast ne=l:=by rw[List.getLast?_eq_getLast ne]at hl;exact Option.some.inj hl
     have sl:Sub a l:=by
      rw[<-List.dropLast_concat_getLast ne,el]at ha ih
      rcases List.mem_append.mp ha with ha | ha
      ·exact(List.pairwise_append.mp ih).2.2 a ha l (List.mem_singleton.mpr rfl)
      ·rw[List.mem_singleton.mp ha];exact fun j z=>z
     exact fun j z=>by rw[Nat.testBit_or,sl j z];rfl
  ·rw[List.mem_singleton.mp hd]
   exact List.pairwise_map.mpr ((ih.sublist (List.dropLast_sublist c)).imp Vg)
theorem De(p:Nat->Bool):∀L:List Nat,L.length =(L.filter p).length +(L.filter fun m=>!p m).length
 | []=>rfl
 | a::L=>by
  have:=De p L
  rw[List.filter_cons,List.filter_cons]
  cases h:p a<;>simp<;>omega
theorem Qc:∀(Cs:List (List Nat)) (L:List Nat),L.Nodup->(∀m∈L,∃c∈Cs,m∈c)->(∀c∈Cs,∀a∈L,∀b∈L,a∈c->b∈c->a=b)->L.length<=Cs.length
 | [],L,_,h,_=>by
  cases L with
  | nil=>exact Nat.le_refl _
  | cons a _=>obtain⟨_,z,_⟩:=h a (List.mem_cons_self ..);exact absurd z List.not_mem_nil
 | c::Cs,L,nd,h,one=>by
  have ih:=Qc Cs (L.filter fun m=>!decide (m∈c)) (nd.sublist List.filter_sublist) (fun m hm=>by
   obtain⟨h1,h2⟩:=List.mem_filter.mp hm
   obtain⟨d,hd,hmd⟩:=h m h1
   rcases List.mem_cons.mp hd with rfl | hd
   ·rw[decide_eq_true hmd]at h2;cases h2
   ·exact⟨d,hd,hmd⟩) fun d hd a ha b hb=>one d (List.mem_cons_of_mem _ hd) a (List.mem_filter.mp ha).1 b (List.mem_filter.mp hb).1
  have le1:(L.filter fun m=>decide (m∈c)).length<=1:=by
   have nd':=nd.sublist (List.filter_sublist (p:=fun m=>decide (m∈c)))
   match e:L.filter (fun m=>decide (m∈c)),nd' with
   | [],_=>exact Nat.zero_le _
   | [_],_=>exact Nat.le_refl _
   | a::b::r,nd' =>
    have ha:a∈L.filter (fun m=>decide (m∈c)):=by rw[e];exact List.mem_cons_self ..
    have hb:b∈L.filter (fun m=>decide (m∈c)):=by rw[e];exact List.mem_cons_of_mem _ (List.mem_cons_self ..)
    have:=one c (List.mem_cons_self ..) a (List.mem_filter.mp ha).1 b (List.mem_filter.mp hb).1 (of_decide_eq_true (List.mem_filter.mp ha).2) (of_decide_eq_true (List.mem_filter.mp hb).2)
    exact absurd (this▸List.mem_cons_self ..) (List.nodup_cons.mp nd').1
  have:=De (fun m=>decide (m∈c)) L
  rw[List.length_cons]
  omega
theorem Sz:∀n,n<=10->(chs n).length<=300:=by decide +kernel
theorem Hw{n:Nat}(hn:n<=10){L:List Nat}(nd:L.Nodup)(lo:∀m∈L,Low n m)(anti:∀a∈L,∀b∈L,Sub a b->a=b):L.length<=300:=by
 refine Nat.le_trans (Qc (chs n) L nd (fun m hm=>i6 n m (lo m hm)) fun c hc a ha b hb h1 h2=>?_) (Sz n hn)
 obtain⟨i,hi,ei⟩:=List.getElem_of_mem h1
 obtain⟨j,hj,ej⟩:=List.getElem_of_mem h2
 have pw:=List.pairwise_iff_getElem.mp (Hd n c hc)
 rcases Nat.lt_trichotomy i j with z | z | z
 ·have:=pw i j hi hj z
  rw[ei,ej]at this
  exact anti a ha b hb this
 ·subst z;rw[<-ei,<-ej]
 ·have:=pw j i hj hi z
  rw[ei,ej]at this
  exact(anti b hb a ha this).symm
theorem Eg(m i:Nat):((Builtin.bitAnd ((2^i:Nat):Int) (m:Int)) != 0)=m.testBit i:=by
 rw[Qk]
 have e:(2^i &&& m)=if m.testBit i=true then 2^i else 0:=Nat.eq_of_testBit_eq fun j=>by
  rw[Nat.testBit_and,Nat.testBit_two_pow]
  by_cases h:m.testBit i=true
  ·rw[if_pos h,Nat.testBit_two_pow]
   by_cases c:i=j
   ·subst c;rw[h,Bool.and_true]
   ·rw[decide_eq_false c,Bool.false_and]
  ·rw[if_neg h,Nat.zero_testBit]
   by_cases c:i=j
   ·subst c;rw[Bool.eq_false_iff.mpr h,Bool.and_false]
   ·rw[decide_eq_false c,Bool.false_and]
 rw[e]
 have p:0<2^i:=Nat.pow_pos (by decide)
 by_cases h:m.testBit i=true
 ·rw[if_pos h,h,bne_iff_ne]
  omega
 ·rw[if_neg h,Bool.eq_false_iff.mpr h];rfl
theorem Wf(x y:Nat)(h:∀j,y.testBit j=true->x.testBit j=true):∃z:Nat,Builtin.bitXor (x:Int) (y:Int) =(z:Int)/\∀j,z.testBit j=true↔x.testBit j=true/\¬y.testBit j=true:=by
 have hz:∀j,(x ^^^ y).testBit j=true↔x.testBit j=true/\¬y.testBit j=true:=fun j=>by
  rw[Nat.testBit_xor]
  cases hx:x.testBit j<;>cases hy:y.testBit j<;>simp
  exact absurd (h j hy) (by rw[hx];decide)
 refine⟨x ^^^ y,?_,hz⟩
 have e:(x ^^^ y)+y=x:=Nat.eq_of_testBit_eq fun j=>by
  rw[Na j _ _ fun i z=>((hz i).mp z).2,Bool.eq_iff_iff,Bool.or_eq_true,hz]
  exact⟨fun z=>z.elim (·.1) (h j),fun z=>by by_cases c:y.testBit j=true<;>simp[z,c]⟩
 have a:x &&& y=y:=Nat.eq_of_testBit_eq fun j=>by
  rw[Nat.testBit_and,Bool.eq_iff_iff,Bool.and_eq_true]
  exact⟨(·.2),fun z=>⟨h j z,z⟩⟩
 rw[PyProof.Rows.bitXor_and,Qk,a]
 omega
noncomputable def bK(M:List Nat)(n:Nat):List (Key×V):=(List.range n).map fun i=>((Sum.inl ((2^i:Nat):Int):Key),E1 (M.getD i 0))
theorem Mj{i j:Nat}(h:((2^i:Nat):Int) =((2^j:Nat):Int)):i=j:=(Nat.pow_right_inj (by decide)).mp (Int.ofNat_inj.mp h)
theorem Ft(M:List Nat):∀{n i:Nat},i<n->R0 (bK M n) (.inl ((2^i:Nat):Int))=some (E1 (M.getD i 0))
 | n+1,i,h=>by
  unfold R0 bK
  rw[List.range_succ,List.map_append,List.find?_append]
  by_cases c:i<n
  ·have ih:=Ft M c
   unfold R0 bK at ih
   cases e:(List.find? (fun kv:Key×V=>decide (kv.1=Sum.inl ((2^i:Nat):Int))) ((List.range n).map fun i=>((Sum.inl ((2^i:Nat):Int):Key),E1 (M.getD i 0))))with
   | none=>rw[e]at ih;cases ih
   | some q=>rw[e]at ih;rw[Option.some_or];exact ih
  ·have e:i=n:=by omega
   subst e
   rw[List.find?_eq_none.mpr fun q hq z=>?_,Option.none_or]
   ·rw[List.map_cons,List.find?_cons,decide_eq_true rfl];rfl
   ·obtain⟨k,hk,rfl⟩:=List.mem_map.mp hq
    have:=Mj (Sum.inl.inj (of_decide_eq_true z))
    have:=List.mem_range.mp hk
    omega
noncomputable def mf(a b c d:Addr)(n L:Nat):List (Str×V):=[("names",.ref a),("full",E1 (2^n-1)),("bit_of",.ref b),("strikers_of",.ref c),("struck_of",.ref d),("loops",E1 L)]
structure MarksAt(C:Addr)(H:Hp)(x c:Addr)(ns:List Str)(A B:List Nat)(L:Nat):Prop where
 ex:∃dx a b d kb,H x=some (.ins C dx (mf a b c d ns.length L))/\H a=some (.lst (ns.map V.str))/\Rd H b (.dK kb)/\(∀i n,ns[i]?=some n->R0 kb (.inr n)=some (E1 (2^i)))/\Rd H c (.dK (bK A ns.length))/\H d=some (.dK (bK B ns.length))/\d≠c/\b≠c
 net:Net ns.length A B
 nd:ns.Nodup
 len:ns.length<=100
 loops:∀j,L.testBit j=true↔(A.getD j 0).testBit j=true
theorem Rx{H:Hp}{a c:Addr}{kvs:List (Key×V)}{o:HO}(r:Rd H c (.dK kvs))(h:H a=some o)(n1:∀kvs,o≠ .dK kvs)(n2:∀ob u,o≠ .frz ob u):a≠c:=by
 rintro rfl
 rcases r with r | ⟨ob,r⟩
 ·rw[h]at r;exact n1 _ (Option.some.inj r)
 ·rw[h]at r;exact n2 _ _ (Option.some.inj r)
theorem Wm{H H':Hp}{b c:Addr}{u:HO}(r:Rd H b u)(s:Sm [c] H H')(n:b≠c):Rd H' b u:=r.imp (fun h=>Sm1 s h n) fun⟨o,h⟩=>⟨o,Sm1 s h n⟩
theorem MarksAt.fz{C:Addr}{H H':Hp}{x c:Addr}{ns:List Str}{A B:List Nat}{L:Nat}(h:MarksAt C H x c ns A B L)(s:Sm [c] H H')(r:Rd H' c (.dK (bK A ns.length))):MarksAt C H' x c ns A B L:=by
 obtain⟨⟨dx,a,b,d,kb,e1,e2,e3,e4,e5,e6,n1,n2⟩,h1,h2,h3,h4⟩:=h
 exact⟨⟨dx,a,b,d,kb,Sm1 s e1 (Rx e5 e1 (fun _ z=>by cases z) fun _ _ z=>by cases z),Sm1 s e2 (Rx e5 e2 (fun _ z=>by cases z) fun _ _ z=>by cases z),Wm e3 s n2,e4,r,Sm1 s e6 n1,n1,n2⟩,h1,h2,h3,h4⟩
theorem MarksAt.same{C:Addr}{H H':Hp}{x c:Addr}{ns:List Str}{A B:List Nat}{L:Nat}(h:MarksAt C H x c ns A B L)(s:Same H H'):MarksAt C H' x c ns A B L :=
 h.fz s.sm (let⟨_,_,_,_,_,_,_,_,_,e5,_⟩:=h.ex;e5.imp (s _ _) fun⟨o,e⟩=>⟨o,s _ _ e⟩)
noncomputable def Q1(m i:Nat):List Nat:=(List.range i).filter fun k=>m.testBit k
theorem n8(m i:Nat):Q1 m (i+1)=Q1 m i++if m.testBit i=true then [i]else []:=by
 unfold Q1
 rw[List.range_succ,List.filter_append,List.filter_cons,List.filter_nil]
theorem o7(m i:Nat):(Q1 m i).length<=i:=Nat.le_trans (List.length_filter_le ..) (by rw[List.length_range];exact Nat.le_refl _)
section
variable{P:Program}{w:World}{K:PySem.W.Frag}{mg:Str->Option Value}{base:Heap}
theorem O6:FnScope ["self", "some"] ["self", "some"] (B4 s_Marks_bits_in):=⟨rfl,rfl,rfl,by decide +kernel,rfl,by decide +kernel,by decide +kernel⟩
noncomputable def X3(C:Addr):Sp:=fun vs H Q _=>∃(x c:Addr) (ns:List Str) (A B:List Nat) (L m:Nat),vs = [.ref x,.int (m:Int)]/\MarksAt C H x c ns A B L/\∀l H',H l=none->Sm [c] H H'->MarksAt C H' x c ns A B L->H' l=some (.lst ((Q1 m ns.length).map fun k=>E1 (2^k)))->Q (.ref l) H'
theorem P2(T:Tx K mg):FnOk P w K mg base CX0 1 T.mMarks_bits_in.f T.mMarks_bits_in.fd ["self", "some"] (X3 T.CMarks):=by
 have sc:=O6
 refine T.mMarks_bits_in.F.ok O6 (fun vs H Q E h=>?_) (fun cdv A outer s H vs Q E hr h=>?_)
 ·obtain⟨x,c,ns,A,B,L,m,rfl,_⟩:=h
  rfl
 ·obtain⟨x,c,ns,A,B,L,m,rfl,hM,q⟩:=h
  obtain⟨dx,a,b,d,kb,e1,e2,e3,e4,e5,e6,n1,n2⟩:=hM.ex
  have ln:=hM.len
  refine⟨_,(B3 (C1 (Q5 (N':=["bit", "some"]) (cap:=[none,some 1]) (cl:=[("some",_)]) (K0 ⟨⟨rfl,rfl,rfl,rfl⟩,trivial⟩ ⟨rfl,trivial⟩) rfl (Ry (peF K (pv 0))) (fun _ _ _ _=>by exact⟨(pgC 0),(T0 (ptV K (C2 M9 (pv 0) (pv 1)))),(pv 0)⟩)))),?_⟩
  refine ex1 rfl ⟨x,T.CMarks,dx,_,ex1 rfl ⟨e1,T.clMarks,T.nMarks_strikers_of,rfl,c,_,rfl,e5,fun o D hD=>?_⟩⟩
  have hDc:D≠c:=fun z=>by rw[z,A9]at hD;cases hD
  have kz:Sm [c] H (upd H c (.frz o (.dK (bK A ns.length)))):=(Sm.refl _ _).upd (by simp)
  have rz:Rd (upd H c (.frz o (.dK (bK A ns.length)))) c (.dK (bK A ns.length)):=.inr ⟨o,A9⟩
  have fz:(upd H c (.frz o (.dK (bK A ns.length)))) c=some (.frz o (.dK (bK A ns.length))):=A9
  have hD0:H D=none:=by rw[B5 hDc]at hD;exact hD
  have M1:=hM.fz kz rz
  generalize upd H c (.frz o (.dK (bK A ns.length)))=H1 at hD kz rz fz M1⊢
  have lb:(bK A ns.length).length=ns.length:=by unfold bK;rw[List.length_map,List.length_range]
  refine Ai (n:=ns.length) (fun i σ G=>(∃v0,σ = [v0,some (.int (m:Int))])/\Same H1 G/\G D=some (.lst ((Q1 m i).map fun k=>E1 (2^k)))) ⟨⟨_,rfl⟩,Same.new hD,A9⟩ ?_ ?_ ?_ ?_
  ·rintro i σ G hi ⟨_,sG,_⟩
   exact⟨sG _ _ fz,by rw[lb];exact hi⟩
  ·rintro σ G ⟨_,sG,_⟩
   exact⟨sG _ _ fz,by rw[lb];exact Nat.le_refl _⟩
  ·rintro i σ G y H' N hi ⟨⟨v0,rfl⟩,sG,eG⟩ ⟨rfl,k,v,hk,rfl⟩ hN
   unfold bK at hk
   rw[List.getElem?_map,List.getElem?_range hi]at hk
   obtain⟨rfl,rfl⟩:=Prod.mk.inj (Option.some.inj hk)
   refine ex1 rfl (ex1 rfl (B7 rfl rfl ⟨_,rfl,?_⟩))
   dsimp only
   rw[Eg]
   have hl:=o7 m i
   refine V8 (fun z=>ex1 rfl ⟨_,eG,by rw[List.length_map,sizeLine_eq];omega,hN _ _ ⟨⟨_,rfl⟩,sG.upd hD,?_⟩⟩) (fun z=>hN _ _ ⟨⟨_,rfl⟩,sG,?_⟩)
   ·rw[A9,n8,if_pos z,List.map_append];rfl
   ·rw[n8,if_neg z,List.append_nil];exact eG
  ·rintro σ G ⟨_,sG,eG⟩
   exact q D G hD0 (kz.trans sG.sm) (M1.same sG) eG
end
theorem Uy{α:Type}{J:It}{ys:List α}{r:α->V}(f:α->V){a D:Addr}{H:Hp}(as:AsSeq J (ys.map r) a H){tc:TT}{te:TE}{c:St}{v0:Option V}{Q:St->Hp->Prop}(p:α->Bool)(len:ys.length<=5000)(hD:H D=none)
  (ht:∀y∈ys,∀G,Same H G->∀M:Bool->Hp->Prop,(∀G',Same G G'->M (p y) G')->tc (some (r y)::c) G M) (he:∀y∈ys,∀G,Same H G->∀M:VK,(∀G',Same G G'->M (f y) G')->te (some (r y)::c) G M)
  (q:∀σ G,Same H G->G D=some (.lst ((ys.filter p).map f))->Q σ G):Ib (T4 0) tc (Cr D te) J (v0::c) (upd H D (.lst [])) Q:=by
 refine i8 as (fun i σ G=>(∃v,σ=v::c)/\Same H G/\G D=some (.lst (((ys.take i).filter p).map f))) ⟨⟨_,rfl⟩,Same.new hD,A9⟩ (fun i σ G _ h=>h.2.1.at a) ?_ ?_
 ·rintro i σ G v N hx ⟨⟨v0,rfl⟩,sG,eG⟩ hN
  rw[List.getElem?_map]at hx
  obtain⟨y,hy,rfl⟩:=Option.map_eq_some_iff.mp hx
  have my:=List.mem_of_getElem? hy
  refine ht y my G sG _ fun G' s'=>?_
  have eG:=s' _ _ eG
  have sG:=sG.trans s'
  have hs:(ys.take (i+1)).filter p =(ys.take i).filter p++if p y=true then [y]else []:=by
   rw[take_succ hy,List.filter_append,List.filter_cons,List.filter_nil]
  have hl:=List.length_filter_le p (ys.take i)
  rw[List.length_take]at hl
  refine V8 (fun c=>he y my G' sG _ fun G2 s2=>⟨_,s2 _ _ eG,by rw[List.length_map,sizeLine_eq];omega,hN _ _ ⟨⟨_,rfl⟩,(sG.trans s2).upd hD,?_⟩⟩) (fun c=>hN _ _ ⟨⟨_,rfl⟩,sG,?_⟩)
  ·rw[A9,hs,if_pos c,List.map_append];rfl
  ·rw[hs,if_neg c,List.append_nil];exact eG
 ·rintro σ G ⟨_,sG,eG⟩
  rw[List.length_map,List.take_length]at eG
  exact q σ G sG eG
theorem u4{α:Type}{J:It}{ys:List α}{r:α->V}(f:α->V){a D:Addr}{H:Hp}(as:AsSeq J (ys.map r) a H){tc:TT}{te:TE}{c:St}{v0:Option V}{Q:St->Hp->Prop}(p:α->Bool)(len:ys.length<=5000)(hD:H D=none)
  (ht:∀y∈ys,∀G,Same H G->∀M:Bool->Hp->Prop,(∀G',Same G G'->M (p y) G')->tc (some (r y)::c) G M) (he:∀y∈ys,∀G,Same H G->∀M:VK,M (f y) G->te (some (r y)::c) G M)
  (q:∀σ G,Same H G->G D=some (.lst ((ys.filter p).map f))->Q σ G):Ib (T4 0) tc (Cr D te) J (v0::c) (upd H D (.lst [])) Q :=
 Uy f as p len hD ht (fun y hy G s M hM=>he y hy G s M (hM G fun b o e=>e)) q
theorem mem_bitsTo{m n k:Nat}:k∈Q1 m n↔k<n/\m.testBit k=true:=by
 unfold Q1
 rw[List.mem_filter,List.mem_range]
theorem J3(n j:Nat):(2^n-1).testBit j=true↔j<n:=by rw[Nat.testBit_two_pow_sub_one,decide_eq_true_iff]
section
variable{P:Program}{w:World}{K:PySem.W.Frag}{mg:Str->Option Value}{base:Heap}
theorem M6:FnScope ["self", "some"] ["self", "some"] (B4 s_Marks_names_in):=⟨rfl,rfl,rfl,by decide +kernel,rfl,by decide +kernel,by decide +kernel⟩
noncomputable def m9(C:Addr):Sp:=fun vs H Q _=>∃(x c:Addr) (ns:List Str) (A B:List Nat) (L m:Nat),vs = [.ref x,.int (m:Int)]/\MarksAt C H x c ns A B L/\∀l H',H l=none->Same H H'->H' l=some (.lst ((setOf ns m).map V.str))->Q (.ref l) H'
theorem W2(T:Tx K mg):FnOk P w K mg base CX0 1 T.mMarks_names_in.f T.mMarks_names_in.fd ["self", "some"] (m9 T.CMarks):=by
 have sc:=M6
 refine T.mMarks_names_in.F.ok M6 (fun vs H Q E h=>?_) (fun cdv A outer s H vs Q E hr h=>?_)
 ·obtain⟨x,c,ns,A,B,L,m,rfl,_⟩:=h
  rfl
 ·obtain⟨x,c,ns,A,B,L,m,rfl,hM,q⟩:=h
  have hu:=Ba hr
  obtain⟨dx,a,b,d,kb,e1,e2,e3,e4,e5,e6,n1,n2⟩:=hM.ex
  have ln:=hM.len
  refine⟨_,(B3 (C1 (Q5 (N':=["name", "some", "self"]) (cap:=[none,some 1,some 0]) (cl:=[("some",_),("self",_)]) (K0 ⟨⟨rfl,rfl,rfl,rfl⟩,⟨⟨rfl,rfl,rfl,rfl⟩,trivial⟩⟩ ⟨rfl,⟨rfl,trivial⟩⟩) rfl (piL K (peF K (pv 0))) (fun _ _ _ _=>by exact⟨(pgC 0),(T0 (ptV K (C2 M9 (G9 hu (peF K (pv 2)) (pv 0) (fun _ _=>rfl)) (pv 1)))),(pv 0)⟩)))),?_⟩
  refine ex1 rfl ⟨x,T.CMarks,dx,_,ex1 rfl ⟨e1,T.clMarks,T.nMarks_names,rfl,a,rfl,⟨_,SqL.of e2⟩,fun D hD=>?_⟩⟩
  refine i8 (asL (SqL.of e2)) (fun i σ G=>(∃v0,σ = [v0,some (.int (m:Int)),some (.ref x)])/\Same H G/\G D=some (.lst ((Do ns m i).map V.str))) ⟨⟨_,rfl⟩,Same.new hD,A9⟩ (fun i σ G _ h=>h.2.1.at a) ?_ ?_
  ·rintro i σ G y N hx ⟨⟨v0,rfl⟩,sG,eG⟩ hN
   rw[List.getElem?_map]at hx
   obtain⟨n,hn,rfl⟩:=Option.map_eq_some_iff.mp hx
   have li:=(List.getElem?_eq_some_iff.mp hn).1
   have rb:Rd G b (.dK kb):=e3.imp (sG _ _) fun⟨o,e⟩=>⟨o,sG _ _ e⟩
   refine ex1 rfl ⟨x,T.CMarks,dx,_,ex1 rfl ⟨sG _ _ e1,T.clMarks,T.nMarks_bit_of,rfl,ex1 rfl ⟨b,_,rfl,.inl ⟨kb,.inr n,rb,rfl,(e4 i n hn).symm⟩,ex1 rfl (B7 rfl rfl ⟨_,rfl,?_⟩)⟩⟩⟩
   dsimp only
   rw[Eg]
   have hle:=(V3 ns m i (by omega)).length_le
   rw[List.length_take]at hle
   refine V8 (fun z=>ex1 rfl ⟨_,eG,by rw[List.length_map,sizeLine_eq];omega,hN _ _ ⟨⟨_,rfl⟩,sG.upd hD,?_⟩⟩) (fun z=>hN _ _ ⟨⟨_,rfl⟩,sG,?_⟩)
   ·rw[A9,M8 hn,if_pos z,List.map_append];rfl
   ·rw[M8 hn,if_neg z,List.append_nil];exact eG
  ·rintro σ G ⟨_,sG,eG⟩
   rw[List.length_map]at eG
   exact q D G hD sG eG
theorem Cu:FnScope ["sets", "whole", "one"] ["sets"] (B4 s_joined):=⟨rfl,rfl,rfl,by decide +kernel,rfl,by decide +kernel,by decide +kernel⟩
noncomputable def Z7(K:PySem.W.Frag):Sp:=fun vs H Q _=>∃(l:Addr) (zs:List Nat),vs = [.ref l]/\H l=some (.lst (zs.map E1))/\∀r:Nat,(∀j,r.testBit j=true↔∃z∈zs,z.testBit j=true)->Q (.int (r:Int)) H
theorem Du(T:Tx K mg):FnOk P w K mg base CX0 1 T.joined.f T.joined.fd ["sets"] (Z7 K):=by
 have sc:=Cu
 refine T.joined.F.ok Cu (fun vs H Q E h=>?_) (fun cdv A outer s H vs Q E hr h=>?_)
 ·obtain⟨l,zs,rfl,_⟩:=h
  rfl
 ·obtain⟨l,zs,rfl,el,q⟩:=h
  refine⟨_,(B2 (C6 (i:=1) sc.nd rfl (by first | exact Or.inl rfl | exact Or.inr rfl) B6)
   (B2 (J9 PassesOwn.never rfl (piL K (pv 0)) (C4 (i:=2) sc.nd rfl (by first | exact Or.inl rfl | exact Or.inr rfl))
   (B3 (Uv (i:=1) sc.nd rfl (Or.inl rfl) (pv 2) Wh)))
   (B3 (C1 (pv 1))))),?_⟩
  refine B8 fun N0 hN0=>?_
  refine hN0 _ _ (B8 fun N1 hN1=>?_)
  refine ex1 rfl ⟨l,rfl,⟨_,SqL.of el⟩,?_⟩
  refine T7 (asL (K:=K) (SqL.of el)) (fun i σ G=>G=H/\∃(r:Nat) (v2:Option V),σ = [some (.ref l),some (.int (r:Int)),v2]/\∀j,r.testBit j=true↔∃z∈zs.take i,z.testBit j=true) ⟨rfl,0,_,rfl,fun j=>by simp⟩ (fun i σ G _ h=>by rw[h.1];exact fun o e=>e) ?_ ?_
  ·rintro i σ G y hx ⟨rfl,r,v2,rfl,hr⟩ D' hD' _
   rw[List.getElem?_map]at hx
   obtain⟨z,hz,rfl⟩:=Option.map_eq_some_iff.mp hx
   refine ex1 rfl (ex1 rfl (B7 rfl rfl ?_))
   dsimp only
   rw[bor]
   refine hD' _ _ ⟨rfl,_,_,rfl,fun j=>?_⟩
   rw[Nat.testBit_or,Bool.or_eq_true,hr,take_succ hz]
   constructor
   ·rintro(⟨z',h1,h2⟩ | h)
    ·exact⟨z',List.mem_append_left _ h1,h2⟩
    ·exact⟨z,List.mem_append_right _ (List.mem_singleton.mpr rfl),h⟩
   ·rintro⟨z',h1,h2⟩
    rcases List.mem_append.mp h1 with h1 | h1
    ·exact .inl ⟨z',h1,h2⟩
    ·rw[List.mem_singleton.mp h1]at h2;exact .inr h2
  ·rintro σ G ⟨rfl,r,v2,rfl,hr⟩
   rw[List.length_map,List.take_length]at hr
   exact hN1 _ _ (ex1 rfl (q r hr))
noncomputable def W1(C:Addr)(f:List Nat->List Nat->List Nat):Sp:=fun vs H Q _=>∃(x c:Addr) (ns:List Str) (A B:List Nat) (L m:Nat),vs = [.ref x,.int (m:Int)]/\MarksAt C H x c ns A B L/\∀(r:Nat) H',Sm [c] H H'->MarksAt C H' x c ns A B L->(∀j,r.testBit j=true↔Ch (f A B) m j)->Q (.int (r:Int)) H'
theorem La{n m r:Nat}{M:List Nat}(lt:∀k j,(M.getD k 0).testBit j=true->k<n)(h:∀j,r.testBit j=true↔∃z∈(Q1 m n).map (fun k=>M.getD k 0),z.testBit j=true)(j:Nat):r.testBit j=true↔Ch M m j:=by
 rw[h]
 constructor
 ·rintro⟨z,hz,e⟩
  obtain⟨k,hk,rfl⟩:=List.mem_map.mp hz
  exact⟨k,(mem_bitsTo.mp hk).2,e⟩
 ·rintro⟨k,hk,e⟩
  exact⟨_,List.mem_map.mpr ⟨k,mem_bitsTo.mpr ⟨lt k j e,hk⟩,rfl⟩,e⟩
theorem K6:FnScope ["self", "some"] ["self", "some"] (B4 s_Marks_struck_by):=⟨rfl,rfl,rfl,by decide +kernel,rfl,by decide +kernel,by decide +kernel⟩
theorem G0(T:Tx K mg):FnOk P w K mg base CX0 2 T.mMarks_struck_by.f T.mMarks_struck_by.fd ["self", "some"] (W1 T.CMarks fun _ B=>B):=by
 have G_Marks_bits_in:FnOk P w K mg base CX0 1 T.mMarks_bits_in.f T.mMarks_bits_in.fd ["self", "some"] (X3 T.CMarks):=P2 T
 have G_joined:FnOk P w K mg base CX0 1 T.joined.f T.joined.fd ["sets"] (Z7 K):=Du T
 have sc:=K6
 refine T.mMarks_struck_by.F.ok K6 (fun vs H Q E h=>?_) (fun cdv A outer s H vs Q E hr h=>?_)
 ·obtain⟨x,c,ns,A,B,L,m,rfl,_⟩:=h
  rfl
 ·obtain⟨x,c,ns,A,B,L,m,rfl,hM,q⟩:=h
  have hu:=Ba hr
  obtain⟨dx,a,b,d,kb,e1,_⟩:=hM.ex
  have ln:=hM.len
  refine⟨_,(B3 (C1 (D9 T.joined G_joined (hr.mono (by decide)) (A8 (Q5 (N':=["bit", "self"]) (cap:=[none,some 0]) (cl:=[("self",_)]) (K0 ⟨⟨rfl,rfl,rfl,rfl⟩,trivial⟩ ⟨rfl,trivial⟩) rfl (piL K (E9 (pv 0) T.clMarks T.mMarks_bits_in.m G_Marks_bits_in (hr.mono (by decide)) T.mMarks_bits_in.b .nil K5 (A8 (pv 1) B1))) (fun _ _ _ _=>by exact⟨(pgC 0),E5,(G9 hu (peF K (pv 1)) (pv 0) (fun _ _=>rfl))⟩)) B1)))),?_⟩
  refine ex1 rfl ⟨x,dx,ex1 rfl ⟨e1,rfl,ex1 rfl ⟨x,c,ns,A,B,L,m,rfl,hM,fun l H1 hl k1 M1 el=>?_⟩⟩⟩
  obtain⟨dx,a,b,d,kb,e1,e2,e3,e4,e5,e6,n1,n2⟩:=M1.ex
  refine⟨l,rfl,⟨_,SqL.of el⟩,fun D hD=>?_⟩
  refine u4 (fun k=>E1 (B.getD k 0)) (asL (SqL.of el)) (fun _=>true) (Nat.le_trans (o7 ..) (by omega)) hD (fun k hk G sG M hM=>hM G fun b o e=>e) (fun k hk G sG M hM=>?_) fun σ' G sG eG=>?_
  ·exact ex1 rfl ⟨x,T.CMarks,dx,_,ex1 rfl ⟨sG _ _ e1,T.clMarks,T.nMarks_struck_of,rfl,ex1 rfl ⟨d,_,rfl,.inl ⟨_,.inl ((2^k:Nat):Int),.inl (sG _ _ e6),rfl,(Ft B (mem_bitsTo.mp hk).1).symm⟩,hM⟩⟩⟩
  rw[List.filter_eq_self.mpr fun _ _=>rfl]at eG
  have eG:G D=some (.lst (((Q1 m ns.length).map fun k=>B.getD k 0).map E1)):=by rw[eG,List.map_map];rfl
  refine⟨D,_,rfl,eG,fun r hr=>q r G (k1.trans sG.sm) (M1.same sG) (La (fun k j e=>(hM.net.lt k j e).1) hr)⟩
theorem J1:FnScope ["self", "some"] ["self", "some"] (B4 s_Marks_strikers_at):=⟨rfl,rfl,rfl,by decide +kernel,rfl,by decide +kernel,by decide +kernel⟩
theorem S3(T:Tx K mg):FnOk P w K mg base CX0 2 T.mMarks_strikers_at.f T.mMarks_strikers_at.fd ["self", "some"] (W1 T.CMarks fun A _=>A):=by
 have G_Marks_bits_in:FnOk P w K mg base CX0 1 T.mMarks_bits_in.f T.mMarks_bits_in.fd ["self", "some"] (X3 T.CMarks):=P2 T
 have G_joined:FnOk P w K mg base CX0 1 T.joined.f T.joined.fd ["sets"] (Z7 K):=Du T
 have sc:=J1
 refine T.mMarks_strikers_at.F.ok J1 (fun vs H Q E h=>?_) (fun cdv A outer s H vs Q E hr h=>?_)
 ·obtain⟨x,c,ns,A,B,L,m,rfl,_⟩:=h
  rfl
 ·obtain⟨x,c,ns,A,B,L,m,rfl,hM,q⟩:=h
  have hu:=Ba hr
  obtain⟨dx,a,b,d,kb,e1,_⟩:=hM.ex
  have ln:=hM.len
  refine⟨_,(B3 (C1 (D9 T.joined G_joined (hr.mono (by decide)) (A8 (Q5 (N':=["bit", "self"]) (cap:=[none,some 0]) (cl:=[("self",_)]) (K0 ⟨⟨rfl,rfl,rfl,rfl⟩,trivial⟩ ⟨rfl,trivial⟩) rfl (piL K (E9 (pv 0) T.clMarks T.mMarks_bits_in.m G_Marks_bits_in (hr.mono (by decide)) T.mMarks_bits_in.b .nil K5 (A8 (pv 1) B1))) (fun _ _ _ _=>by exact⟨(pgC 0),E5,(G9 hu (peF K (pv 1)) (pv 0) (fun _ _=>rfl))⟩)) B1)))),?_⟩
  refine ex1 rfl ⟨x,dx,ex1 rfl ⟨e1,rfl,ex1 rfl ⟨x,c,ns,A,B,L,m,rfl,hM,fun l H1 hl k1 M1 el=>?_⟩⟩⟩
  obtain⟨dx,a,b,d,kb,e1,e2,e3,e4,e5,e6,n1,n2⟩:=M1.ex
  refine⟨l,rfl,⟨_,SqL.of el⟩,fun D hD=>?_⟩
  refine u4 (fun k=>E1 (A.getD k 0)) (asL (SqL.of el)) (fun _=>true) (Nat.le_trans (o7 ..) (by omega)) hD (fun k hk G sG M hM=>hM G fun b o e=>e) (fun k hk G sG M hM=>?_) fun σ' G sG eG=>?_
  ·exact ex1 rfl ⟨x,T.CMarks,dx,_,ex1 rfl ⟨sG _ _ e1,T.clMarks,T.nMarks_strikers_of,rfl,ex1 rfl ⟨c,_,rfl,.inl ⟨_,.inl ((2^k:Nat):Int),e5.imp (sG _ _) fun⟨o,e⟩=>⟨o,sG _ _ e⟩,rfl,(Ft A (mem_bitsTo.mp hk).1).symm⟩,hM⟩⟩⟩
  rw[List.filter_eq_self.mpr fun _ _=>rfl]at eG
  have eG:G D=some (.lst (((Q1 m ns.length).map fun k=>A.getD k 0).map E1)):=by rw[eG,List.map_map];rfl
  refine⟨D,_,rfl,eG,fun r hr=>q r G (k1.trans sG.sm) (M1.same sG) (La (fun k j e=>(hM.net.lt j k ((hM.net.tr k j).mp e)).2) hr)⟩
theorem I9:FnScope ["self", "some"] ["self", "some"] (B4 s_Marks_unstruck_by):=⟨rfl,rfl,rfl,by decide +kernel,rfl,by decide +kernel,by decide +kernel⟩
noncomputable def T6(C:Addr):Sp:=fun vs H Q _=>∃(x c:Addr) (ns:List Str) (A B:List Nat) (L m:Nat),vs = [.ref x,.int (m:Int)]/\MarksAt C H x c ns A B L/\∀(r:Nat) H',Sm [c] H H'->MarksAt C H' x c ns A B L->(∀j,r.testBit j=true↔j<ns.length/\¬Ch B m j)->Q (.int (r:Int)) H'
theorem J0(T:Tx K mg):FnOk P w K mg base CX0 3 T.mMarks_unstruck_by.f T.mMarks_unstruck_by.fd ["self", "some"] (T6 T.CMarks):=by
 have G_Marks_struck_by:FnOk P w K mg base CX0 2 T.mMarks_struck_by.f T.mMarks_struck_by.fd ["self", "some"] (W1 T.CMarks fun _ B=>B):=G0 T
 have sc:=I9
 refine T.mMarks_unstruck_by.F.ok I9 (fun vs H Q E h=>?_) (fun cdv A outer s H vs Q E hr h=>?_)
 ·obtain⟨x,c,ns,A,B,L,m,rfl,_⟩:=h
  rfl
 ·obtain⟨x,c,ns,A,B,L,m,rfl,hM,q⟩:=h
  obtain⟨dx,a,b,d,kb,e1,_⟩:=hM.ex
  refine⟨_,(B3 (C1 (C2 He (peF K (pv 0)) (E9 (pv 0) T.clMarks T.mMarks_struck_by.m G_Marks_struck_by (hr.mono (by decide)) T.mMarks_struck_by.b .nil K5 (A8 (pv 1) B1))))),?_⟩
  refine ex1 rfl ⟨x,T.CMarks,dx,_,ex1 rfl ⟨e1,T.clMarks,T.nMarks_full,rfl,ex1 rfl ⟨x,dx,ex1 rfl ⟨e1,rfl,ex1 rfl ⟨x,c,ns,A,B,L,m,rfl,hM,fun r H1 k1 M1 hr=>?_⟩⟩⟩⟩⟩
  obtain⟨z,ez,hz⟩:=Wf (2^ns.length-1) r fun j hj=>by
   obtain⟨k,_,e⟩:=(hr j).mp hj
   exact(J3 _ _).mpr (hM.net.lt k j e).2
  refine⟨_,_,rfl,rfl,?_⟩
  dsimp only
  rw[ez]
  exact q z H1 k1 M1 fun j=>by rw[hz,J3,hr]
theorem Y1:FnScope ["some"] ["some"] (B4 s_first_bit):=⟨rfl,rfl,rfl,by decide +kernel,rfl,by decide +kernel,by decide +kernel⟩
noncomputable def Gz:Sp:=fun vs H Q _=>∃s:Nat,vs = [.int (s:Int)]/\0<s/\∀k:Nat,s.testBit k=true->Q (.int ((2^k:Nat):Int)) H
theorem Ca(T:Tx K mg):FnOk P w K mg base CX0 1 T.first_bit.f T.first_bit.fd ["some"] Gz:=by
 have sc:=Y1
 refine T.first_bit.F.ok Y1 (fun vs H Q E h=>?_) (fun cdv A outer s H vs Q E hr h=>?_)
 ·obtain⟨s,rfl,_⟩:=h
  rfl
 ·obtain⟨s,rfl,h0,q⟩:=h
  refine⟨_,(B3 (C1 (C2 M9 (pv 0) (Oo Ur (pv 0))))),?_⟩
  refine ex1 rfl (ex1 rfl ⟨_,rfl,B7 rfl rfl ?_⟩)
  obtain⟨k,h1,h2⟩:=Sx s h0
  have e:-(s:Int)=Builtin.bitNot (((s-1:Nat)):Int):=by unfold Builtin.bitNot;omega
  have:=q k h1
  dsimp only
  rw[e,PyProof.Rows.bitAnd_not,Qk]
  have e2:(s:Int)-((s &&&(s-1):Nat):Int) =((2^k:Nat):Int):=by
   have:s &&&(s-1)<=s:=Nat.and_le_left
   omega
  rw[e2]
  exact this
noncomputable def j7(C:Addr):Sp:=fun vs H Q _=>∃(x c:Addr) (ns:List Str) (A B:List Nat) (L ch ba:Nat),vs = [.ref x,.int (ch:Int),.int (ba:Int)]/\MarksAt C H x c ns A B L/\Low ns.length ch/\Low ns.length ba /\
 ∀t (ba':Nat) H',Sm [c] H H'->MarksAt C H' x c ns A B L->H' t=some (.tup [.int (ch:Int),.int (ba':Int)])->Low ns.length ba'->Sub ba ba'->(∀m,StandM ns.length A B m->Fits ch ba m->Fits ch ba' m)->Mg ns.length A B ch ba'->Q (.ref t) H'
theorem K8:FnScope ["marks", "chosen", "barred", "safe", "more"] ["marks", "chosen", "barred"] (B4 s_settle_standing):=⟨rfl,rfl,rfl,by decide +kernel,rfl,by decide +kernel,by decide +kernel⟩
set_option maxHeartbeats 2000000 in
theorem U3(T:Tx K mg):FnOk P w K mg base CX0 4 T.settle_standing.f T.settle_standing.fd ["marks", "chosen", "barred"] (j7 T.CMarks):=by
 have G_Marks_struck_by:FnOk P w K mg base CX0 2 T.mMarks_struck_by.f T.mMarks_struck_by.fd ["self", "some"] (W1 T.CMarks fun _ B=>B):=G0 T
 have G_Marks_strikers_at:FnOk P w K mg base CX0 2 T.mMarks_strikers_at.f T.mMarks_strikers_at.fd ["self", "some"] (W1 T.CMarks fun A _=>A):=S3 T
 have G_Marks_unstruck_by:FnOk P w K mg base CX0 3 T.mMarks_unstruck_by.f T.mMarks_unstruck_by.fd ["self", "some"] (T6 T.CMarks):=J0 T
 have sc:=K8
 refine T.settle_standing.F.ok K8 (fun vs H Q E h=>?_) (fun cdv A outer s H vs Q E hr h=>?_)
 ·obtain⟨x,c,ns,A,B,L,ch,ba,rfl,_⟩:=h
  rfl
 ·obtain⟨x,c,ns,A,B,L,ch,ba,rfl,hM,loc,lob,q⟩:=h
  have net:=hM.net
  refine⟨_,(B3 (Gq PassesOwn.never (K7 w5) (B2 (C6 (i:=3) sc.nd rfl (by first | exact Or.inl rfl | exact Or.inr rfl) (E9 (pv 0) T.clMarks T.mMarks_unstruck_by.m G_Marks_unstruck_by (hr.mono (by decide)) T.mMarks_unstruck_by.b .nil K5 (A8 (C2 He (peF K (pv 0)) (pv 2)) B1)))
   (B2 (C6 (i:=4) sc.nd rfl (by first | exact Or.inl rfl | exact Or.inr rfl) (C2 U6 (C2 U6 (C2 U6 (pv 2) (E9 (pv 0) T.clMarks T.mMarks_struck_by.m G_Marks_struck_by (hr.mono (by decide)) T.mMarks_struck_by.b .nil K5 (A8 (pv 1) B1))) (E9 (pv 0) T.clMarks T.mMarks_strikers_at.m G_Marks_strikers_at (hr.mono (by decide)) T.mMarks_strikers_at.b .nil K5 (A8 (pv 1) B1))) (E9 (pv 0) T.clMarks T.mMarks_struck_by.m G_Marks_struck_by (hr.mono (by decide)) T.mMarks_struck_by.b .nil K5 (A8 (pv 3) B1))))
   (B2 (J7 (C8 U1 (pv 4) (pv 2) (E3 _)) (B3 (C1 (U0 (A8 (pv 1) (A8 (pv 2) B1))))) D0)
   (B3 (C6 (i:=2) sc.nd rfl (by first | exact Or.inl rfl | exact Or.inr rfl) (pv 4)))))))),?_⟩
  refine⟨fun k σ G=>∃(b1:Nat) (v3 v4:Option V),σ = [some (.ref x),some (.int (ch:Int)),some (.int (b1:Int)),v3,v4]/\k=2^ns.length-b1/\Low ns.length b1/\Sub ba b1/\Sm [c] H G/\MarksAt T.CMarks G x c ns A B L/\∀m,StandM ns.length A B m->Fits ch ba m->Fits ch b1 m,⟨_,ba,_,_,rfl,rfl,lob,fun j h=>h,Sm.refl _ _,hM,fun m _ h=>h⟩,?_⟩
  rintro k σ G ⟨b1,v3,v4,rfl,rfl,lo1,sub1,kG,MG,snd1⟩
  refine⟨_,rfl,Qg ⟨fun σ' G'=>∃(b2:Nat) (v3 v4:Option V),σ' = [some (.ref x),some (.int (ch:Int)),some (.int (b2:Int)),v3,v4]/\b1<b2/\Low ns.length b2/\Sub ba b2/\Sm [c] H G'/\MarksAt T.CMarks G' x c ns A B L/\∀m,StandM ns.length A B m->Fits ch ba m->Fits ch b2 m,?_,?_⟩⟩
  ·rintro σ' G' ⟨b2,v3,v4,rfl,lt,lo2,h⟩
   have:=lo2.lt
   exact⟨2^ns.length-b2,by omega,b2,_,_,rfl,rfl,lo2,h⟩
  refine B8 fun N1 hN1=>?_
  obtain⟨dx,a,b,d,kb,e1,_⟩:=MG.ex
  obtain⟨z,ez,hz⟩:=Wf (2^ns.length-1) b1 fun j hj=>(J3 _ _).mpr (lo1 j hj)
  refine ex1 rfl ⟨x,dx,ex1 rfl ⟨e1,rfl,ex1 rfl ⟨x,T.CMarks,dx,_,ex1 rfl ⟨e1,T.clMarks,T.nMarks_full,rfl,ex1 rfl (B7 rfl rfl ?_)⟩⟩⟩⟩
  dsimp only
  rw[ez]
  refine⟨x,c,ns,A,B,L,z,rfl,MG,fun sf G1 k1 M1 hsf=>?_⟩
  refine hN1 _ _ (B8 fun N2 hN2=>?_)
  obtain⟨dx,a,b,d,kb,e1,_⟩:=M1.ex
  refine ex1 rfl (ex1 rfl ⟨x,dx,ex1 rfl ⟨e1,rfl,ex1 rfl ⟨x,c,ns,A,B,L,ch,rfl,M1,fun r1 G2 k2 M2 h1=>?_⟩⟩⟩)
  refine B7 rfl rfl ?_
  dsimp only
  rw[bor]
  obtain⟨dx,a,b,d,kb,e1,_⟩:=M2.ex
  refine ex1 rfl ⟨x,dx,ex1 rfl ⟨e1,rfl,ex1 rfl ⟨x,c,ns,A,B,L,ch,rfl,M2,fun r2 G3 k3 M3 h2=>?_⟩⟩⟩
  refine B7 rfl rfl ?_
  dsimp only
  rw[bor]
  obtain⟨dx,a,b,d,kb,e1,_⟩:=M3.ex
  refine ex1 rfl ⟨x,dx,ex1 rfl ⟨e1,rfl,ex1 rfl ⟨x,c,ns,A,B,L,sf,rfl,M3,fun r3 G4 k4 M4 h3=>?_⟩⟩⟩
  refine B7 rfl rfl ?_
  dsimp only
  rw[bor]
  have k4:=kG.trans (k1.trans (k2.trans (k3.trans k4)))
  generalize hmo:(b1 ||| r1 ||| r2 ||| r3)=mo
  have hm:∀j,mo.testBit j=true↔((b1.testBit j=true\/Ch B ch j)\/Ch A ch j)\/Ch B sf j:=fun j=>by
   rw[<-hmo,Nat.testBit_or,Nat.testBit_or,Nat.testBit_or,Bool.or_eq_true,Bool.or_eq_true,Bool.or_eq_true,h1,h2,h3]
  have hs3:∀j,Ch B sf j↔∃i,i<ns.length/\(¬∃k,k<ns.length/\¬b1.testBit k=true/\(B.getD k 0).testBit i=true)/\(B.getD i 0).testBit j=true:=fun j=>by
   constructor
   ·rintro⟨i,hi,e⟩
    obtain⟨hn,nh⟩:=(hsf i).mp hi
    exact⟨i,hn,fun⟨k,hk,nb,e'⟩=>nh ⟨k,(hz k).mpr ⟨(J3 _ _).mpr hk,nb⟩,e'⟩,e⟩
   ·rintro⟨i,hi,nk,e⟩
    exact⟨i,(hsf i).mpr ⟨hi,fun⟨k,hk,e'⟩=>nk ⟨k,(J3 _ _).mp ((hz k).mp hk).1,((hz k).mp hk).2,e'⟩⟩,e⟩
  refine hN2 _ _ (B8 fun N3 hN3=>?_)
  refine ex1 rfl (ex1 rfl ⟨rfl,_,rfl,V8 (fun eq=>?_) (fun ne=>?_)⟩)
  ·have eq:mo=b1:=by have:=V.int.inj (of_decide_eq_true eq);omega
   refine ex1 rfl (ex1 rfl ⟨by show 2<=sizeLine;decide,fun t ht=>?_⟩)
   have ut:=Same.new (o:=.tup [.int (ch:Int),.int (b1:Int)]) ht
   refine q t b1 _ (k4.trans ut.sm) (M4.same ut) A9 lo1 sub1 snd1 ⟨fun j h=>?_,fun j h=>?_,fun i j hi nk e=>?_⟩
   ·rw[<-eq];exact(hm j).mpr (.inl (.inl (.inr h)))
   ·rw[<-eq];exact(hm j).mpr (.inl (.inr h))
   ·rw[<-eq];exact(hm j).mpr (.inr ((hs3 j).mpr ⟨i,hi,nk,e⟩))
  ·have ne:mo≠b1:=fun z=>ne (decide_eq_true (by rw[z]))
   refine hN3 _ _ ?_
   have sb:Sub b1 mo:=fun j h=>(hm j).mpr (.inl (.inl (.inl h)))
   refine ex1 rfl ⟨mo,_,_,rfl,Nat.lt_of_le_of_ne (Nat.le_of_testBit sb) (Ne.symm ne),fun j h=>?_,fun j h=>sb j (sub1 j h),k4,M4,fun m hs hf=>?_⟩
   ·rcases(hm j).mp h with((h | ⟨k,_,e⟩) | ⟨k,_,e⟩) | ⟨k,_,e⟩
    ·exact lo1 j h
    ·exact(net.lt k j e).2
    ·exact(net.lt j k ((net.tr k j).mp e)).1
    ·exact(net.lt k j e).2
   ·have f1:=snd1 m hs hf
    obtain⟨x1,x2,x3⟩:=Md net hs f1
    refine⟨f1.1,fun j hj z=>?_⟩
    rcases(hm j).mp z with((h | h) | h) | h
    ·exact f1.2 j hj h
    ·exact x1 j h hj
    ·exact x2 j h hj
    ·obtain⟨i,hi,nk,e⟩:=(hs3 j).mp h
     exact x3 i j hi nk e hj
end
noncomputable def er(H:Hp)(l:Addr):Hp:=fun b=>if b=l then none else H b
theorem Nz{H:Hp}{l b:Addr}(n:b≠l):er H l b=H b:=if_neg n
theorem At(H:Hp)(l:Addr):Same (er H l) H:=fun b o e=>by
 unfold er at e
 by_cases c:b=l
 ·rw[if_pos c]at e;cases e
 ·rw[if_neg c]at e;exact e
theorem Tn(H:Hp)(l:Addr)(o:HO):er (upd H l o) l=er H l:=funext fun b=>by
 unfold er
 by_cases c:b=l
 ·rw[if_pos c,if_pos c]
 ·rw[if_neg c,if_neg c,B5 c]
theorem MarksAt.er{C:Addr}{H H':Hp}{x c l:Addr}{ns:List Str}{A B:List Nat}{L:Nat}(h:MarksAt C (er H l) x c ns A B L)(k:Sm [c] H H')(h':MarksAt C H' x c ns A B L)(n:l≠c):MarksAt C (Sw.er H' l) x c ns A B L:=by
 refine h.fz (fun b o e nb=>?_) ?_
 ·have:b≠l:=fun z=>by subst z;unfold Sw.er at e;rw[if_pos rfl]at e;cases e
  rw[Nz this]
  exact k b o (At H l b o e) nb
 ·obtain⟨_,_,_,_,_,_,_,_,_,e5,_⟩:=h'.ex
  unfold Rd
  rw[Nz n.symm]
  exact e5
theorem Sq{n:Nat}(p:Nat->Prop)(h:∀m,p m->Low n m):∃Ls:List Nat,Ls.Nodup/\∀m,m∈Ls↔p m:=by
 classical
 refine⟨(List.range (2^n)).filter fun m=>decide (p m),List.filter_sublist.nodup List.nodup_range,fun m=>?_⟩
 rw[List.mem_filter,List.mem_range,decide_eq_true_iff]
 exact⟨fun z=>z.2,fun z=>⟨(h m z).lt,z⟩⟩
theorem Bb(x y:Nat):((Builtin.bitAnd (x:Int) (y:Int)) != 0)=true↔∃j,x.testBit j=true/\y.testBit j=true:=by
 rw[Qk,bne_iff_ne]
 constructor
 ·intro h
  have h:x &&& y≠0:=fun z=>h (by rw[z];rfl)
  obtain⟨j,hj⟩:=Nat.exists_testBit_of_ne_zero h
  rw[Nat.testBit_and,Bool.and_eq_true]at hj
  exact⟨j,hj⟩
 ·rintro⟨j,h1,h2⟩ z
  have e:x &&& y=0:=by omega
  have:=Nat.zero_testBit j
  rw[<-e,Nat.testBit_and,h1,h2]at this
  cases this
section
variable{P:Program}{w:World}{K:PySem.W.Frag}{mg:Str->Option Value}{base:Heap}
noncomputable abbrev Tgt:=Nat->List Nat->List Nat->Nat->Prop
noncomputable def d0(C:Addr)(Tg:Tgt):Sp:=fun vs H Q _=>∃(x c:Addr) (ns:List Str) (A B:List Nat) (L ch ba:Nat),vs = [.ref x,.int (ch:Int),.int (ba:Int)]/\MarksAt C H x c ns A B L/\Low ns.length ch/\Low ns.length ba /\
 ∀t (ch' ba':Nat) H',Sm [c] H H'->MarksAt C H' x c ns A B L->H' t=some (.tup [.int (ch':Int),.int (ba':Int)])->Low ns.length ch'->Low ns.length ba'->Sub ch ch'->Sub ba ba'->(∀m,Tg ns.length A B m->Fits ch ba m->Fits ch' ba' m)->((∀j,ch'.testBit j=true->¬ba'.testBit j=true)->(∀j,j<ns.length->ch'.testBit j=true\/ba'.testBit j=true)->Tg ns.length A B ch')->Q (.ref t) H'
theorem Cb:FnScope ["marks", "settle", "greatest", "chosen", "barred", "found", "undecided", "most", "first"] ["marks", "settle", "greatest", "chosen", "barred", "found"] (B4 s_gather):=⟨rfl,rfl,rfl,by decide +kernel,rfl,by decide +kernel,by decide +kernel⟩
noncomputable def Sh:Sp:=fun _ _ _ _=>False
theorem Oc{f:Addr}{fd:FuncData}{ps:List Str}{CX:CXT}{n:Nat}:FnOk P w K mg base CX n f fd ps Sh:=⟨fun _ _ _ _ h=>h.elim,fun _ _ _ _ _ _ _ _ _ _ _ _ _ h=>h.elim⟩
end
noncomputable def WholeM(n:Nat)(A B:List Nat)(m:Nat):Prop:=StandM n A B m/\∀j,O0 n A B m j->m.testBit j=true
theorem Ju{n:Nat}{A B:List Nat}{m m' j:Nat}(s:Sub m m')(h:O0 n A B m j):O0 n A B m' j:=⟨h.1,fun b hb=>let⟨k,hk,e⟩:=h.2 b hb;⟨k,s k hk,e⟩⟩
section
variable{P:Program}{w:World}{K:PySem.W.Frag}{mg:Str->Option Value}{base:Heap}
theorem U7:FnScope ["self", "some"] ["self", "some"] (B4 s_Marks_kept):=⟨rfl,rfl,rfl,by decide +kernel,rfl,by decide +kernel,by decide +kernel⟩
noncomputable def Hj(C:Addr):Sp:=fun vs H Q _=>∃(x c:Addr) (ns:List Str) (A B:List Nat) (L m:Nat),vs = [.ref x,.int (m:Int)]/\MarksAt C H x c ns A B L/\∀(r:Nat) H',Sm [c] H H'->MarksAt C H' x c ns A B L->(∀j,r.testBit j=true↔O0 ns.length A B m j)->Q (.int (r:Int)) H'
theorem Bh(T:Tx K mg):FnOk P w K mg base CX0 4 T.mMarks_kept.f T.mMarks_kept.fd ["self", "some"] (Hj T.CMarks):=by
 have G_Marks_struck_by:FnOk P w K mg base CX0 2 T.mMarks_struck_by.f T.mMarks_struck_by.fd ["self", "some"] (W1 T.CMarks fun _ B=>B):=G0 T
 have G_Marks_unstruck_by:FnOk P w K mg base CX0 3 T.mMarks_unstruck_by.f T.mMarks_unstruck_by.fd ["self", "some"] (T6 T.CMarks):=J0 T
 have sc:=U7
 refine T.mMarks_kept.F.ok U7 (fun vs H Q E h=>?_) (fun cdv A outer s H vs Q E hr h=>?_)
 ·obtain⟨x,c,ns,A,B,L,m,rfl,_⟩:=h
  rfl
 ·obtain⟨x,c,ns,A,B,L,m,rfl,hM,q⟩:=h
  obtain⟨dx,a,b,d,kb,e1,_⟩:=hM.ex
  refine⟨_,(B3 (C1 (C2 He (peF K (pv 0)) (E9 (pv 0) T.clMarks T.mMarks_struck_by.m G_Marks_struck_by (hr.mono (by decide)) T.mMarks_struck_by.b .nil K5 (A8 (E9 (pv 0) T.clMarks T.mMarks_unstruck_by.m G_Marks_unstruck_by (hr.mono (by decide)) T.mMarks_unstruck_by.b .nil K5 (A8 (pv 1) B1)) B1))))),?_⟩
  refine ex1 rfl ⟨x,T.CMarks,dx,_,ex1 rfl ⟨e1,T.clMarks,T.nMarks_full,rfl,ex1 rfl ⟨x,dx,ex1 rfl ⟨e1,rfl,ex1 rfl ⟨x,dx,ex1 rfl ⟨e1,rfl,ex1 rfl ⟨x,c,ns,A,B,L,m,rfl,hM,fun r1 H1 k1 M1 h1=>?_⟩⟩⟩⟩⟩⟩⟩
  refine⟨x,c,ns,A,B,L,r1,rfl,M1,fun r H2 k2 M2 hr=>?_⟩
  obtain⟨z,ez,hz⟩:=Wf (2^ns.length-1) r fun j hj=>by
   obtain⟨k,_,e⟩:=(hr j).mp hj
   exact(J3 _ _).mpr (hM.net.lt k j e).2
  refine⟨_,_,rfl,rfl,?_⟩
  dsimp only
  rw[ez]
  refine q z H2 (k1.trans k2) M2 fun j=>?_
  rw[hz,J3,hr]
  constructor
  ·rintro⟨hj,nh⟩
   refine⟨hj,fun b hb=>?_⟩
   have e:=(hM.net.tr j b).mp hb
   by_cases c:Ch B m b
   ·exact c
   ·exact absurd ⟨b,(h1 b).mpr ⟨(hM.net.lt b j e).1,c⟩,e⟩ nh
  ·rintro⟨hj,h⟩
   exact⟨hj,fun⟨k,hk,e⟩=>((h1 k).mp hk).2 (h k ((hM.net.tr j k).mpr e))⟩
theorem Q7:FnScope ["marks", "chosen", "barred", "more"] ["marks", "chosen", "barred"] (B4 s_settle_whole):=⟨rfl,rfl,rfl,by decide +kernel,rfl,by decide +kernel,by decide +kernel⟩
set_option maxHeartbeats 2000000 in
theorem Z8(T:Tx K mg):FnOk P w K mg base CX0 5 T.settle_whole.f T.settle_whole.fd ["marks", "chosen", "barred"] (d0 T.CMarks WholeM):=by
 have G_settle_standing:FnOk P w K mg base CX0 4 T.settle_standing.f T.settle_standing.fd ["marks", "chosen", "barred"] (j7 T.CMarks):=U3 T
 have G_Marks_kept:FnOk P w K mg base CX0 4 T.mMarks_kept.f T.mMarks_kept.fd ["self", "some"] (Hj T.CMarks):=Bh T
 have sc:=Q7
 refine T.settle_whole.F.ok Q7 (fun vs H Q E h=>?_) (fun cdv A outer s H vs Q E hr h=>?_)
 ·obtain⟨x,c,ns,A,B,L,ch,ba,rfl,_⟩:=h
  rfl
 ·obtain⟨x,c,ns,A,B,L,ch,ba,rfl,hM,loc,lob,q⟩:=h
  have net:=hM.net
  refine⟨_,(B3 (Gq PassesOwn.never (K7 w5) (B2 (Z9 (D9 T.settle_standing G_settle_standing (hr.mono (by decide)) (A8 (pv 0) (A8 (pv 1) (A8 (pv 2) B1)))) (pgT K (n:=2) (D4 (C4 (i:=1) sc.nd rfl (by first | exact Or.inl rfl | exact Or.inr rfl)) (D4 (C4 (i:=2) sc.nd rfl (by first | exact Or.inl rfl | exact Or.inr rfl)) O1))))
   (B2 (C6 (i:=3) sc.nd rfl (by first | exact Or.inl rfl | exact Or.inr rfl) (C2 U6 (pv 1) (E9 (pv 0) T.clMarks T.mMarks_kept.m G_Marks_kept (hr.mono (by decide)) T.mMarks_kept.b .nil K5 (A8 (pv 1) B1))))
   (B2 (J7 (PW.pt (Eu (C8 U1 (pv 3) (pv 1) (E3 _)) (t6 (ptV K (C2 M9 (pv 1) (pv 2)))))) (B3 (C1 (U0 (A8 (pv 1) (A8 (pv 2) B1))))) D0)
   (B3 (C6 (i:=1) sc.nd rfl (by first | exact Or.inl rfl | exact Or.inr rfl) (pv 3)))))))),?_⟩
  refine⟨fun k σ G=>∃(c1 b1:Nat) (v3:Option V),σ = [some (.ref x),some (.int (c1:Int)),some (.int (b1:Int)),v3]/\k=2^ns.length-c1/\Low ns.length c1/\Low ns.length b1/\Sub ch c1/\Sub ba b1/\Sm [c] H G/\MarksAt T.CMarks G x c ns A B L/\∀m,WholeM ns.length A B m->Fits ch ba m->Fits c1 b1 m,⟨_,ch,ba,_,rfl,rfl,loc,lob,fun j h=>h,fun j h=>h,Sm.refl _ _,hM,fun m _ h=>h⟩,?_⟩
  rintro k σ G ⟨c1,b1,v3,rfl,rfl,lo1,lo2,sub1,sub2,kG,MG,snd1⟩
  refine⟨_,rfl,Qg ⟨fun σ' G'=>∃(c2 b2:Nat) (v3:Option V),σ' = [some (.ref x),some (.int (c2:Int)),some (.int (b2:Int)),v3]/\c1<c2/\Low ns.length c2/\Low ns.length b2/\Sub ch c2/\Sub ba b2/\Sm [c] H G'/\MarksAt T.CMarks G' x c ns A B L/\∀m,WholeM ns.length A B m->Fits ch ba m->Fits c2 b2 m,?_,?_⟩⟩
  ·rintro σ' G' ⟨c2,b2,v3,rfl,lt,lo3,h⟩
   have:=lo3.lt
   exact⟨2^ns.length-c2,by omega,c2,b2,_,rfl,rfl,lo3,h⟩
  refine B8 fun N1 hN1=>?_
  refine ex1 rfl (ex1 rfl (ex1 rfl ⟨x,c,ns,A,B,L,c1,b1,rfl,MG,lo1,lo2,fun t b2 G1 k1 M1 et lo3 sub3 snd2 st=>?_⟩))
  refine⟨t,_,rfl,SqT.of et,rfl,_,_,rfl,_,_,rfl,rfl,?_⟩
  have snd3:∀m,WholeM ns.length A B m->Fits ch ba m->Fits c1 b2 m:=fun m hw hf=>snd2 m hw.1 (snd1 m hw hf)
  refine hN1 _ _ (B8 fun N2 hN2=>?_)
  obtain⟨dx,a,b,d,kb,e1,_⟩:=M1.ex
  refine ex1 rfl (ex1 rfl ⟨x,dx,ex1 rfl ⟨e1,rfl,ex1 rfl ⟨x,c,ns,A,B,L,c1,rfl,M1,fun r G2 k2 M2 hr=>?_⟩⟩⟩)
  refine B7 rfl rfl ?_
  dsimp only
  rw[bor]
  have k2:=kG.trans (k1.trans k2)
  generalize hmo:(c1 ||| r)=mo
  have hm:∀j,mo.testBit j=true↔c1.testBit j=true\/O0 ns.length A B c1 j:=fun j=>by rw[<-hmo,Nat.testBit_or,Bool.or_eq_true,hr]
  have ret:(mo=c1\/∃j,c1.testBit j=true/\b2.testBit j=true)->∀t' G3,Same G2 G3->G3 t'=some (.tup [.int (c1:Int),.int (b2:Int)])->Q (.ref t') G3:=fun hc t' G3 s3 et'=>by
   refine q t' c1 b2 G3 (k2.trans s3.sm) (M2.same s3) et' lo1 lo3 sub1 (fun j h=>sub3 j (sub2 j h)) snd3 fun dis all=>⟨Hx net lo1 st dis all,fun j hj=>?_⟩
   rcases hc with e | ⟨i,h1,h2⟩
   ·rw[<-e];exact(hm j).mpr (.inr hj)
   ·exact absurd h2 (dis i h1)
  have tup:(mo=c1\/∃j,c1.testBit j=true/\b2.testBit j=true)->Xc (Yd (Mn (Rf 1) (Mn (Rf 2) Sr))) { nx:=fun _ H'=>Q .non H',rt:=Q } [some (.ref x),some (.int (c1:Int)),some (.int (b2:Int)),some (.int (mo:Int))] G2:=fun hc =>
   ex1 rfl (ex1 rfl ⟨by show 2<=sizeLine;decide,fun t' ht'=>ret hc t' _ (Same.new ht') A9⟩)
  refine hN2 _ _ (B8 fun N3 hN3=>?_)
  refine ex1 rfl (ex1 rfl ⟨rfl,_,rfl,V8 (fun eq=>?_) (fun ne=>?_)⟩)
  ·exact Qg (tup (.inl (by have:=V.int.inj (of_decide_eq_true eq);omega)))
  ·refine ex1 rfl (ex1 rfl (B7 rfl rfl ⟨_,rfl,V8 (fun cm=>?_) (fun cm=>?_)⟩))
   ·exact tup (.inr ((Bb c1 b2).mp cm))
   ·have ne:mo≠c1:=fun z=>ne (decide_eq_true (by rw[z]))
    have sb:Sub c1 mo:=fun j h=>(hm j).mpr (.inl h)
    refine hN3 _ _ ?_
    refine ex1 rfl ⟨mo,b2,_,rfl,Nat.lt_of_le_of_ne (Nat.le_of_testBit sb) (Ne.symm ne),fun j h=>((hm j).mp h).elim (lo1 j) (·.1),lo3,fun j h=>sb j (sub1 j h),fun j h=>sub3 j (sub2 j h),k2,M2,fun m hw hf=>?_⟩
    have f1:=snd3 m hw hf
    exact⟨fun j h=>((hm j).mp h).elim (f1.1 j) fun y=>hw.2 j (Ju f1.1 y),f1.2⟩
end
theorem Ew(κ:Nat->Key)(v:Nat->V){N:Nat}(inj:∀i j,i<N->j<N->κ i=κ j->i=j):∀n,n<=N->∀i,i<N->R0 ((List.range n).map fun k=>(κ k,v k)) (κ i)=if i<n then some (v i)else none
 | 0,_,i,_=>rfl
 | n+1,h,i,hi=>by
  have ih:=Ew κ v inj n (by omega) i hi
  unfold R0 at ih⊢
  rw[List.range_succ,List.map_append,List.find?_append]
  by_cases c:i<n
  ·rw[if_pos c]at ih
   rw[if_pos (by omega)]
   cases e:(List.find? (fun kv:Key×V=>decide (kv.1=κ i)) ((List.range n).map fun k=>(κ k,v k)))with
   | none=>rw[e]at ih;cases ih
   | some q=>rw[e]at ih;rw[Option.some_or];exact ih
  ·rw[if_neg c]at ih
   cases e:(List.find? (fun kv:Key×V=>decide (kv.1=κ i)) ((List.range n).map fun k=>(κ k,v k)))with
   | some q=>rw[e]at ih;cases ih
   | none =>
    rw[Option.none_or,List.map_cons,List.find?_cons]
    by_cases c':i=n
    ·subst c'
     rw[decide_eq_true rfl,if_pos (by omega)];rfl
    ·rw[decide_eq_false fun z=>c' (inj n i (by omega) hi z).symm,if_neg (by omega)];rfl
theorem Jy(κ:Nat->Key)(v:Nat->V){N:Nat}(inj:∀i j,i<N->j<N->κ i=κ j->i=j){n:Nat}(h:n<N):Gp ((List.range n).map fun k=>(κ k,v k)) (κ n) (v n) =(List.range (n+1)).map fun k=>(κ k,v k):=by
 rw[Ni _ (by rw[Ew κ v inj n (by omega) n h,if_neg (by omega)]),List.range_succ,List.map_append];rfl
theorem Hu:∀n,(((List.range n).map fun k=>((2^k:Nat):Int)).sum) =((2^n-1:Nat):Int)
 | 0=>rfl
 | n+1=>by
  rw[List.range_succ,List.map_append,List.sum_append,Hu n]
  have:0<2^n:=Nat.pow_pos (by decide)
  simp only[List.map_cons,List.map_nil,List.sum_cons,List.sum_nil,Nat.pow_succ]
  omega
theorem Gi(l:List Nat):((l.map fun k=>((2^k:Nat):Int)).sum) =(((l.map fun k=>2^k).sum:Nat):Int):=by
 induction l with
 | nil=>rfl
 | cons a r ih=>rw[List.map_cons,List.sum_cons,ih,List.map_cons,List.sum_cons];omega
theorem Dn{ns:List Str}{y:Str}(h:y∈ns):ns[ns.idxOf y]?=some y:=by
 rw[List.getElem?_eq_getElem (List.idxOf_lt_length_of_mem h),List.getElem_idxOf]
noncomputable def ML(ns:List Str)(g:Str->List Str):List Nat:=ns.map fun n=>((g n).map fun y=>2^ns.idxOf y).sum
theorem Sa{ns:List Str}{g:Str->List Str}{i:Nat}{n:Str}(h:ns[i]?=some n):(ML ns g).getD i 0 =(((g n).map fun y=>ns.idxOf y).map fun k=>2^k).sum:=by
 unfold ML
 rw[List.getD_eq_getElem?_getD,List.getElem?_map,h,List.map_map];rfl
theorem Ty{ns:List Str}{g:Str->List Str}{ks:List (Str×Str)}(nd:ns.Nodup)(gn:∀n∈ns,(g n).Nodup)(gm:∀n∈ns,∀y,y∈g n↔(n,y)∈ks)(mem:∀k∈ks,k.1∈ns/\k.2∈ns):MB ns ks (ML ns g):=by
 refine⟨by unfold ML;rw[List.length_map],fun i j=>?_⟩
 cases hi:ns[i]? with
 | none =>
  have e:(ML ns g).getD i 0=0:=by unfold ML;rw[List.getD_eq_getElem?_getD,List.getElem?_map,hi];rfl
  rw[e,Nat.zero_testBit]
  exact⟨fun z=>(by cases z),fun⟨k,_,z,_⟩=>(by cases z)⟩
 | some n =>
  have hn:=List.mem_of_getElem? hi
  have nj:((g n).map fun y=>ns.idxOf y).Nodup:=by
   refine List.pairwise_map.mpr (List.Pairwise.imp_of_mem (fun{a b} ha hb ne e=>ne ?_) (gn n hn))
   have ea:=Dn (mem _ ((gm n hn a).mp ha)).2
   have eb:=Dn (mem _ ((gm n hn b).mp hb)).2
   rw[e,eb]at ea
   exact(Option.some.inj ea).symm
  rw[Sa hi,Ef nj,List.mem_map]
  constructor
  ·rintro⟨y,hy,rfl⟩
   have hk:=(gm n hn y).mp hy
   exact⟨_,hk,rfl,Dn (mem _ hk).2⟩
  ·rintro⟨k,hk,e1,e2⟩
   have e1:=Option.some.inj e1
   refine⟨k.2,(gm n hn k.2).mpr (by rw[e1];exact hk),?_⟩
   exact S2 nd (Dn (mem _ hk).2) e2
theorem Fx{J:It}{a D:Addr}{ns:List Str}{H:Hp}{Q:St->Hp->Prop}(as:AsSeq J (ns.map V.str) a H){tk tv:TE}{r:St}{v0:Option V}(M:List Nat)(len:ns.length<=1000)(hD:H D=none)
  (hk:∀i n G (R:VK),ns[i]?=some n->Same H G->R (E1 (2^i)) G->tk (some (.str n)::r) G R)
  (hv:∀i n G (R:VK),ns[i]?=some n->Same H G->(∀G',Same G G'->R (E1 (M.getD i 0)) G')->tv (some (.str n)::r) G R)
  (q:∀σ G,Same H G->G D=some (.dK (bK M ns.length))->Q σ G):Ib (T4 0) Ep (Nk D tk tv) J (v0::r) (upd H D (.dK [])) Q:=by
 refine i8 as (fun i σ G=>(∃v,σ=v::r)/\Same H G/\G D=some (.dK (bK M i))) ⟨⟨_,rfl⟩,Same.new hD,A9⟩ (fun i σ G _ h=>h.2.1.at a) ?_ ?_
 ·rintro i σ G v N hx ⟨⟨v0,rfl⟩,sG,eG⟩ hN
  rw[List.getElem?_map]at hx
  obtain⟨n,hn,rfl⟩:=Option.map_eq_some_iff.mp hx
  have li:=(List.getElem?_eq_some_iff.mp hn).1
  refine Ho (hk i n G _ hn sG (hv i n G _ hn sG fun G' s'=>?_))
  refine⟨bK M i,.inl ((2^i:Nat):Int),s' _ _ eG,rfl,by unfold bK;rw[List.length_map,List.length_range,sizeLine_eq];omega,hN _ _ ⟨⟨_,rfl⟩,(sG.trans s').upd hD,?_⟩⟩
  rw[A9]
  unfold bK
  rw[Jy (fun k=>(Sum.inl ((2^k:Nat):Int):Key)) (fun k=>E1 (M.getD k 0)) (N:=i+1) (fun a b _ _ e=>Mj (Sum.inl.inj e)) (Nat.lt_succ_self i)]
 ·rintro σ G ⟨_,sG,eG⟩
  rw[List.length_map]at eG
  exact q σ G sG eG
theorem WebAt.smx{C M:Addr}{H H':Hp}{x w dx:Addr}{ns:List Str}{qs:List PA2}(h:WebAt C H w ns qs)(hx:H x=some (.ins M dx []))(s:Sm [x] H H'):WebAt C H' w ns qs:=by
 obtain⟨ok,dw,a,b,c,d,kc,kd,e1,e2,e3,e4,e5,e6,e7,e8⟩:=h
 have k:∀{b:Addr} {o:HO},H b=some o->o≠ .ins M dx []->H' b=some o:=fun e n=>s _ _ e fun z=>n (by rw[List.mem_singleton.mp z,hx]at e;exact(Option.some.inj e).symm)
 exact⟨ok,dw,a,b,c,d,kc,kd,k e1 (by unfold wf;intro z;cases z),k e2 (by intro z;cases z),k e3 (by intro z;cases z),fun q hq=>k (e4 q hq) (by intro z;cases z),k e5 (by intro z;cases z),k e6 (by intro z;cases z),fun n hn=>let⟨l,v,e⟩:=e7 n hn;⟨l,v,k e (by intro z;cases z)⟩,fun n hn=>let⟨l,v,e⟩:=e8 n hn;⟨l,v,k e (by intro z;cases z)⟩⟩
theorem Cp{qs:List PA2}{n y:Str}:y∈B9 qs n↔(n,y)∈(qs.map fun q=>q.2).map fun k=>(k.2,k.1):=by
 unfold B9
 rw[List.map_map,List.mem_map,List.mem_map]
 constructor
 ·rintro⟨q,h,rfl⟩
  obtain⟨h1,h2⟩:=List.mem_filter.mp h
  exact⟨q,h1,Prod.ext (of_decide_eq_true h2) rfl⟩
 ·rintro⟨q,h,e⟩
  exact⟨q,List.mem_filter.mpr ⟨h,decide_eq_true (congrArg Prod.fst e)⟩,congrArg Prod.snd e⟩
theorem Er{qs:List PA2}{n y:Str}:y∈C5 qs n↔(n,y)∈qs.map fun q=>q.2:=by
 unfold C5
 rw[List.mem_map,List.mem_map]
 constructor
 ·rintro⟨q,h,rfl⟩
  obtain⟨h1,h2⟩:=List.mem_filter.mp h
  exact⟨q,h1,Prod.ext (of_decide_eq_true h2) rfl⟩
 ·rintro⟨q,h,e⟩
  exact⟨q,List.mem_filter.mpr ⟨h,decide_eq_true (congrArg Prod.fst e)⟩,congrArg Prod.snd e⟩
theorem Fo{qs:List PA2}(h:(qs.map fun q=>q.2).Nodup)(n:Str):(B9 qs n).Nodup:=by
 unfold B9
 refine List.pairwise_map.mpr (List.Pairwise.imp_of_mem (fun{a b} ha hb ne e=>ne ?_) ((List.pairwise_map.mp h).sublist List.filter_sublist))
 exact Prod.ext e ((of_decide_eq_true (List.mem_filter.mp ha).2).trans (of_decide_eq_true (List.mem_filter.mp hb).2).symm)
theorem Js{qs:List PA2}(h:(qs.map fun q=>q.2).Nodup)(n:Str):(C5 qs n).Nodup:=by
 unfold C5
 refine List.pairwise_map.mpr (List.Pairwise.imp_of_mem (fun{a b} ha hb ne e=>ne ?_) ((List.pairwise_map.mp h).sublist List.filter_sublist))
 exact Prod.ext ((of_decide_eq_true (List.mem_filter.mp ha).2).trans (of_decide_eq_true (List.mem_filter.mp hb).2).symm) e
noncomputable def kbT(ns:List Str)(i:Nat):List (Key×V):=(List.range i).map fun k=>((Sum.inr (ns.getD k ""):Key),E1 (2^k))
theorem Bj{ns:List Str}{i:Nat}{n:Str}(h:ns[i]?=some n):ns.getD i "" = n:=by rw[List.getD_eq_getElem?_getD,h];rfl
theorem Pp{ns:List Str}(nd:ns.Nodup):∀i j,i<ns.length->j<ns.length->(Sum.inr (ns.getD i ""):Key)=Sum.inr (ns.getD j "")->i=j:=fun i j hi hj e=>by
 have e:=Sum.inr.inj e
 rw[Bj (List.getElem?_eq_getElem hi),Bj (List.getElem?_eq_getElem hj)]at e
 exact S2 nd (List.getElem?_eq_getElem hi) (by rw[List.getElem?_eq_getElem hj,e])
theorem Hb{ns:List Str}(nd:ns.Nodup){i:Nat}{n:Str}(h:ns[i]?=some n):R0 (kbT ns ns.length) (.inr n)=some (E1 (2^i)):=by
 have hi:=(List.getElem?_eq_some_iff.mp h).1
 have:=Ew (fun k=>(Sum.inr (ns.getD k ""):Key)) (fun k=>E1 (2^k)) (Pp nd) ns.length (Nat.le_refl _) i hi
 rw[if_pos hi]at this
 rw[Bj h]at this
 exact this
section
variable{P:Program}{w:World}{K:PySem.W.Frag}{mg:Str->Option Value}{base:Heap}
theorem Hs{G:Hp}{b l:Addr}{ns ys:List Str}{R:VK}(nd:ns.Nodup)(hb:G b=some (.dK (kbT ns ns.length)))(hl:G l=some (.lst (ys.map V.str)))(hm:∀y∈ys,y∈ns)(len:ys.length<=1000)(hR:∀G',Same G G'->R (.int ((((ys.map fun y=>ns.idxOf y).map fun k=>2^k).sum:Nat):Int)) G') :
  ∀D,G D=none->Ib (T4 0) Ep (Cr D (Ts (Rf 1) (Rf 0))) (Itl K l) [none,some (.ref b)] (upd G D (.lst [])) fun _ H2=>∃(p:Addr) (zs:List Int),[V.ref D] = [.ref p]/\SqL K H2 p (zs.map V.int)/\R (.int zs.sum) H2:=fun D hD=>by
 refine u4 (fun y=>E1 (2^ns.idxOf y)) (asL (SqL.of hl)) (fun _=>true) (by omega) hD (fun y hy G1 s1 M hM=>hM G1 fun b o e=>e) (fun y hy G1 s1 M hM=>?_) fun σ G1 s1 e1=>?_
 ·exact ex1 rfl (ex1 rfl ⟨b,_,rfl,.inl ⟨_,.inr y,.inl (s1 _ _ hb),rfl,(Hb nd (Dn (hm y hy))).symm⟩,hM⟩)
 ·rw[List.filter_eq_self.mpr fun _ _=>rfl]at e1
  refine⟨D,(ys.map fun y=>ns.idxOf y).map fun k=>((2^k:Nat):Int),rfl,SqL.of (by rw[e1,List.map_map,List.map_map];rfl),?_⟩
  rw[Gi]
  exact hR G1 s1
theorem M7:FnScope ["self", "web", "bits"] ["self", "web"] (B4 s_Marks___init__):=⟨rfl,rfl,rfl,by decide +kernel,rfl,by decide +kernel,by decide +kernel⟩
noncomputable def U8(CM CW:Addr):Sp:=fun vs H Q _=>∃(x dx wb:Addr) (ns:List Str) (qs:List PA2),vs = [.ref x,.ref wb]/\H x=some (.ins CM dx [])/\WebAt CW H wb ns qs /\
 ∀(c:Addr) (A B:List Nat) (L:Nat) H',H c=none->Sm [x] H H'->MarksAt CM H' x c ns A B L->MB ns ((qs.map fun q=>q.2).map fun k=>(k.2,k.1)) A->MB ns (qs.map fun q=>q.2) B->Q .non H'
set_option maxHeartbeats 4000000 in
theorem As(T:Tx K mg):FnOk P w K mg base CX0 3 T.fMarks___init__ T.fdMarks___init__ ["self", "web"] (U8 T.CMarks T.CWeb):=by
 have G_Web_all_names:FnOk P w K mg base CX0 1 T.mWeb_all_names.f T.mWeb_all_names.fd ["self"] (Q2 T.CWeb):=O7 T
 have G_Web_strikers:FnOk P w K mg base CX0 2 T.mWeb_strikers.f T.mWeb_strikers.fd ["self", "name"] (d6 T.CWeb):=n0 T
 have G_Web_struck:FnOk P w K mg base CX0 2 T.mWeb_struck.f T.mWeb_struck.fd ["self", "name"] (Dy T.CWeb):=Ap T
 have sc:=M7
 refine T.FMarks___init__.ok M7 (fun vs H Q E h=>?_) (fun cdv A outer s H vs Q E hr h=>?_)
 ·obtain⟨x,dx,wb,ns,qs,rfl,_⟩:=h
  rfl
 ·obtain⟨x,dx,wb,ns,qs,rfl,hx,hW,q⟩:=h
  have hu:=Ba hr
  have okw:=hW.ok
  have ln:=okw.len
  have nd:=okw.nd
  refine⟨_,(B2 (psF K (pv 0) (Bg (pv 1) T.clWeb T.mWeb_all_names.m G_Web_all_names (hr.mono (by decide)) T.mWeb_all_names.b .nil K5))
   (B2 (C6 (i:=2) sc.nd rfl (by first | exact Or.inl rfl | exact Or.inr rfl) (Jq (N':=["place", "name"]) (cap:=[none,none]) (cl:=[]) (K0 trivial trivial) rfl (piE K T.b_enumerate (A8 (peF K (pv 0)) B1)) (fun _ _ _ _=>by exact⟨(pgT K (n:=2) (D4 (pgC 0) (D4 (pgC 1) O1))),E5,(pv 1),(C2 y3 B6 (pv 0))⟩)))
   (B2 (psF K (pv 0) (E2 Ss T.b_sum Gn (A8 (Ji (pv 2)) B1)))
   (B2 (psF K (pv 0) (pv 2))
   (B2 (psF K (pv 0) (Jq (N':=["name", "bits", "web"]) (cap:=[none,some 2,some 1]) (cl:=[("web",_),("bits",_)]) (K0 ⟨⟨rfl,rfl,rfl,rfl⟩,⟨⟨rfl,rfl,rfl,rfl⟩,trivial⟩⟩ ⟨rfl,⟨rfl,trivial⟩⟩) rfl (piL K (peF K (pv 0))) (fun _ _ _ _=>by exact⟨(pgC 0),E5,(G9 hu (pv 1) (pv 0) (fun _ _=>rfl)),(E2 (Mx K) T.b_sum Gn (A8 (Q5 (N':=["one", "bits"]) (cap:=[none,some 1]) (cl:=[("bits",_)]) (K0 ⟨⟨rfl,rfl,rfl,rfl⟩,trivial⟩ ⟨rfl,trivial⟩) rfl (piL K (E9 (pv 2) T.clWeb T.mWeb_strikers.m G_Web_strikers (hr.mono (by decide)) T.mWeb_strikers.b .nil K5 (A8 (pv 0) B1))) (fun _ _ _ _=>by exact⟨(pgC 0),E5,(G9 hu (pv 1) (pv 0) (fun _ _=>rfl))⟩)) B1))⟩)))
   (B2 (psF K (pv 0) (Jq (N':=["name", "bits", "web"]) (cap:=[none,some 2,some 1]) (cl:=[("web",_),("bits",_)]) (K0 ⟨⟨rfl,rfl,rfl,rfl⟩,⟨⟨rfl,rfl,rfl,rfl⟩,trivial⟩⟩ ⟨rfl,⟨rfl,trivial⟩⟩) rfl (piL K (peF K (pv 0))) (fun _ _ _ _=>by exact⟨(pgC 0),E5,(G9 hu (pv 1) (pv 0) (fun _ _=>rfl)),(E2 (Mx K) T.b_sum Gn (A8 (Q5 (N':=["one", "bits"]) (cap:=[none,some 1]) (cl:=[("bits",_)]) (K0 ⟨⟨rfl,rfl,rfl,rfl⟩,trivial⟩ ⟨rfl,trivial⟩) rfl (piL K (E9 (pv 2) T.clWeb T.mWeb_struck.m G_Web_struck (hr.mono (by decide)) T.mWeb_struck.b .nil K5 (A8 (pv 0) B1))) (fun _ _ _ _=>by exact⟨(pgC 0),E5,(G9 hu (pv 1) (pv 0) (fun _ _=>rfl))⟩)) B1))⟩)))
   (B3 (psF K (pv 0) (E2 (Mx K) T.b_sum Gn (A8 (Q5 (N':=["bit", "self"]) (cap:=[none,some 0]) (cl:=[("self",_)]) (K0 ⟨⟨rfl,rfl,rfl,rfl⟩,trivial⟩ ⟨rfl,trivial⟩) rfl (Up (Ji (pv 2))) (fun _ _ _ _=>by exact⟨(pgC 0),(T0 (ptV K (C2 M9 (pv 0) (G9 hu (peF K (pv 1)) (pv 0) (fun _ _=>rfl))))),(pv 0)⟩)) B1)))))))))),?_⟩
  have nin:∀{b:Addr},b≠x->b∉[x]:=fun h z=>h (List.mem_singleton.mp z)
  refine B8 fun Z1 hZ1=>?_
  obtain⟨_,dw,_,_,_,_,_,_,ew,_⟩:=id hW
  refine ex1 rfl ⟨wb,dw,ex1 rfl ⟨ew,rfl,wb,ns,qs,rfl,hW,fun l1 hl1=>?_⟩⟩
  have nx1:x≠l1:=B0 hx hl1
  refine ex1 rfl ⟨x,T.CMarks,dx,[],rfl,(B5 nx1).trans hx,T.clMarks,T.nMarks_names,by decide,?_⟩
  have k1:Sm [x] H (upd (upd H l1 (.lst (ns.map V.str))) x (.ins T.CMarks dx (J2 "names" (.ref l1) []))):=(Sm.new (Sm.refl _ _) hl1).upd (by simp)
  have a1:(upd (upd H l1 (.lst (ns.map V.str))) x (.ins T.CMarks dx (J2 "names" (.ref l1) []))) l1=some (.lst (ns.map V.str)):=(B5 nx1.symm).trans A9
  have x1:(upd (upd H l1 (.lst (ns.map V.str))) x (.ins T.CMarks dx (J2 "names" (.ref l1) []))) x=some (.ins T.CMarks dx [("names",.ref l1)]):=by rw[A9];rfl
  generalize upd (upd H l1 (.lst (ns.map V.str))) x (.ins T.CMarks dx (J2 "names" (.ref l1) []))=H1 at k1 a1 x1⊢
  refine hZ1 _ _ (B8 fun Z2 hZ2=>?_)
  refine ex1 rfl ⟨x,T.CMarks,dx,_,ex1 rfl ⟨x1,T.clMarks,T.nMarks_names,rfl,l1,ex1 rfl ⟨SqL.of a1,fun b hb=>?_⟩⟩⟩
  refine Ai (n:=ns.length) (fun i σ G=>(∃v0 v1,σ = [v0,v1])/\Same H1 G/\G b=some (.dK (kbT ns i))) ⟨⟨_,_,rfl⟩,Same.new hb,A9⟩ ?_ ?_ ?_ ?_
  ·rintro i σ G hi ⟨_,sG,_⟩
   exact⟨_,_,(sG.at l1).seqL (SqL.of a1),by rw[List.getElem?_map,List.getElem?_eq_getElem hi];rfl⟩
  ·rintro σ G ⟨_,sG,_⟩
   exact⟨_,(sG.at l1).seqL (SqL.of a1),by rw[List.length_map]⟩
  ·rintro i σ G y H' N hi ⟨⟨v0,v1,rfl⟩,sG,eG⟩ ⟨t,y,rfl,ht,rfl,hy⟩ hN
   have hy:=hy _ ((sG.at l1).seqL (SqL.of a1))
   have hi':ns[i]?=some ns[i]:=List.getElem?_eq_getElem hi
   rw[List.getElem?_map,hi']at hy
   cases hy
   refine⟨t,ex1 rfl ⟨SqT.of A9,rfl,_,ex1 rfl (B7 rfl rfl (Sk ?_))⟩⟩
   refine ex1 rfl (ex1 rfl (B7 rfl rfl ⟨⟨by omega,by omega,by decide⟩,?_⟩))
   dsimp only
   rw[Ti]
   have st:=sG.trans (Same.new (o:=.tup [.int i,.str ns[i]]) ht)
   refine⟨kbT ns i,.inr ns[i],(B5 (B0 eG ht)).trans eG,rfl,by unfold kbT;rw[List.length_map,List.length_range,sizeLine_eq];omega,hN _ _ ⟨⟨_,_,rfl⟩,st.upd hb,?_⟩⟩
   rw[A9]
   have:=Jy (fun k=>(Sum.inr (ns.getD k ""):Key)) (fun k=>E1 (2^k)) (Pp nd) hi
   rw[Bj hi']at this
   exact congrArg (fun z=>some (HO.dK z)) this
  rintro σ2 H2 ⟨_,s2,b2⟩
  have nxb:x≠b:=B0 x1 hb
  have x2:=s2 _ _ x1
  have a2:=s2 _ _ a1
  have k2:=k1.trans s2.sm
  refine hZ2 _ _ (B8 fun Z3 hZ3=>?_)
  refine ex1 rfl ⟨b,_,rfl,b2,fun v hv=>?_⟩
  have sv:=Same.new (o:=Gf v b) hv
  have fv:(upd H2 v (Gf v b)) v=some (Gf v b):=A9
  generalize upd H2 v (Gf v b)=H2' at sv fv⊢
  refine⟨v,b,kbT ns ns.length,(List.range ns.length).map fun k=>((2^k:Nat):Int),rfl,fv,sv _ _ b2,by unfold kbT;rw[List.map_map,List.map_map];rfl,?_⟩
  rw[Hu]
  have x2:=sv _ _ x2
  have a2:=sv _ _ a2
  have b2:=sv _ _ b2
  have k2:=k2.trans sv.sm
  refine ex1 rfl ⟨x,T.CMarks,dx,_,rfl,x2,T.clMarks,T.nMarks_full,by simp,?_⟩
  have k3:Sm [x] H2' (upd H2' x (.ins T.CMarks dx (J2 "full" (.int ((2^ns.length-1:Nat):Int)) [("names",.ref l1)]))):=(Sm.refl _ _).upd (by simp)
  have x3:(upd H2' x (.ins T.CMarks dx (J2 "full" (.int ((2^ns.length-1:Nat):Int)) [("names",.ref l1)]))) x=some (.ins T.CMarks dx [("names",.ref l1),("full",E1 (2^ns.length-1))]):=by rw[A9];rfl
  generalize upd H2' x (.ins T.CMarks dx (J2 "full" (.int ((2^ns.length-1:Nat):Int)) [("names",.ref l1)]))=H3 at k3 x3⊢
  have a3:=k3 _ _ a2 (nin nx1.symm)
  have b3:=k3 _ _ b2 (nin nxb.symm)
  have k3:=k2.trans k3
  refine hZ3 _ _ (B8 fun Z4 hZ4=>?_)
  refine ex1 rfl (ex1 rfl ⟨x,T.CMarks,dx,_,rfl,x3,T.clMarks,T.nMarks_bit_of,by simp,?_⟩)
  have k4:Sm [x] H3 (upd H3 x (.ins T.CMarks dx (J2 "bit_of" (.ref b) [("names",.ref l1),("full",E1 (2^ns.length-1))]))):=(Sm.refl _ _).upd (by simp)
  have x4:(upd H3 x (.ins T.CMarks dx (J2 "bit_of" (.ref b) [("names",.ref l1),("full",E1 (2^ns.length-1))]))) x=some (.ins T.CMarks dx [("names",.ref l1),("full",E1 (2^ns.length-1)),("bit_of",.ref b)]):=by rw[A9];rfl
  generalize upd H3 x (.ins T.CMarks dx (J2 "bit_of" (.ref b) [("names",.ref l1),("full",E1 (2^ns.length-1))]))=H4 at k4 x4⊢
  have a4:=k4 _ _ a3 (nin nx1.symm)
  have b4:=k4 _ _ b3 (nin nxb.symm)
  have k4:=k3.trans k4
  refine hZ4 _ _ (B8 fun Z5 hZ5=>?_)
  have mA:=Ty (ns:=ns) (g:=B9 qs) (ks:=(qs.map fun q=>q.2).map fun k=>(k.2,k.1)) nd (fun n _=>Fo okw.ndq n) (fun n _ y=>Cp) fun k hk=>by
   rw[List.map_map]at hk
   obtain⟨q,hq,rfl⟩:=List.mem_map.mp hk
   exact⟨(okw.mem q hq).2,(okw.mem q hq).1⟩
  have mB:=Ty (ns:=ns) (g:=C5 qs) (ks:=qs.map fun q=>q.2) nd (fun n _=>Js okw.ndq n) (fun n _ y=>Er) fun k hk=>by
   obtain⟨q,hq,rfl⟩:=List.mem_map.mp hk
   exact okw.mem q hq
  have net:Net ns.length (ML ns (B9 qs)) (ML ns (C5 qs)):=MB.net mA mB
  have W4:=hW.smx hx k4
  have ins1:∀{n:Str} (y:Str),y∈B9 qs n->y∈ns:=fun y hy=>by
   obtain⟨q,hq,rfl⟩:=List.mem_map.mp hy
   exact(okw.mem q (List.mem_filter.mp hq).1).1
  have ins2:∀{n:Str} (y:Str),y∈C5 qs n->y∈ns:=fun y hy=>by
   obtain⟨q,hq,rfl⟩:=List.mem_map.mp hy
   exact(okw.mem q (List.mem_filter.mp hq).1).2
  have lq:=okw.lenq
  have len1:∀n,(B9 qs n).length<=1000:=fun n=>by unfold B9;rw[List.length_map];have:=List.length_filter_le (fun q:PA2=>decide (q.2.2=n)) qs;omega
  have len2:∀n,(C5 qs n).length<=1000:=fun n=>by unfold C5;rw[List.length_map];have:=List.length_filter_le (fun q:PA2=>decide (q.2.1=n)) qs;omega
  refine ex1 rfl ⟨x,T.CMarks,dx,_,ex1 rfl ⟨x4,T.clMarks,T.nMarks_names,rfl,l1,rfl,⟨_,SqL.of a4⟩,fun c hc=>?_⟩⟩
  refine Fx (asL (SqL.of a4)) (ML ns (B9 qs)) (by omega) hc (fun i n G R hn sG hR=>?_) (fun i n G R hn sG hR=>?_) fun σ5 H5 s5 c5=>?_
  ·exact ex1 rfl (ex1 rfl ⟨b,_,rfl,.inl ⟨_,.inr n,.inl (sG _ _ b4),rfl,(Hb nd hn).symm⟩,hR⟩)
  ·have WG:=W4.same sG
   obtain⟨_,dw,_,_,_,_,_,_,ew,_⟩:=id WG
   refine ex1 rfl ⟨wb,dw,ex1 rfl ⟨ew,rfl,ex1 rfl ⟨wb,n,ns,qs,rfl,WG,List.mem_of_getElem? hn,fun l hl=>?_⟩⟩⟩
   have ul:=Same.new (o:=.lst ((B9 qs n).map V.str)) hl
   refine⟨l,rfl,⟨_,SqL.of A9⟩,Hs nd (ul _ _ (sG _ _ b4)) A9 (fun y hy=>ins1 y hy) (len1 n) fun G' s'=>?_⟩
   have:=hR G' (ul.trans s')
   rw[Sa hn]at this
   exact this
  generalize ML ns (B9 qs)=A at mA net c5
  have hc0:H c=none:=k4.none (nin (B0 x4 hc).symm) hc
  have nxc:x≠c:=B0 x4 hc
  have x5:=s5 _ _ x4
  have a5:=s5 _ _ a4
  have b5:=s5 _ _ b4
  have bc:b≠c:=B0 b4 hc
  have k5:=k4.trans s5.sm
  refine ex1 rfl ⟨x,T.CMarks,dx,_,rfl,x5,T.clMarks,T.nMarks_strikers_of,by simp,?_⟩
  have k6:Sm [x] H5 (upd H5 x (.ins T.CMarks dx (J2 "strikers_of" (.ref c) [("names",.ref l1),("full",E1 (2^ns.length-1)),("bit_of",.ref b)]))):=(Sm.refl _ _).upd (by simp)
  have x6:(upd H5 x (.ins T.CMarks dx (J2 "strikers_of" (.ref c) [("names",.ref l1),("full",E1 (2^ns.length-1)),("bit_of",.ref b)]))) x=some (.ins T.CMarks dx [("names",.ref l1),("full",E1 (2^ns.length-1)),("bit_of",.ref b),("strikers_of",.ref c)]):=by rw[A9];rfl
  generalize upd H5 x (.ins T.CMarks dx (J2 "strikers_of" (.ref c) [("names",.ref l1),("full",E1 (2^ns.length-1)),("bit_of",.ref b)]))=H6 at k6 x6⊢
  have a6:=k6 _ _ a5 (nin nx1.symm)
  have b6:=k6 _ _ b5 (nin nxb.symm)
  have c6:=k6 _ _ c5 (nin nxc.symm)
  have k6:=k5.trans k6
  have W6:=hW.smx hx k6
  refine hZ5 _ _ (B8 fun Z6 hZ6=>?_)
  refine ex1 rfl ⟨x,T.CMarks,dx,_,ex1 rfl ⟨x6,T.clMarks,T.nMarks_names,rfl,l1,rfl,⟨_,SqL.of a6⟩,fun d hd=>?_⟩⟩
  refine Fx (asL (SqL.of a6)) (ML ns (C5 qs)) (by omega) hd (fun i n G R hn sG hR=>?_) (fun i n G R hn sG hR=>?_) fun σ7 H7 s7 d7=>?_
  ·exact ex1 rfl (ex1 rfl ⟨b,_,rfl,.inl ⟨_,.inr n,.inl (sG _ _ b6),rfl,(Hb nd hn).symm⟩,hR⟩)
  ·have WG:=W6.same sG
   obtain⟨_,dw,_,_,_,_,_,_,ew,_⟩:=id WG
   refine ex1 rfl ⟨wb,dw,ex1 rfl ⟨ew,rfl,ex1 rfl ⟨wb,n,ns,qs,rfl,WG,List.mem_of_getElem? hn,fun l hl=>?_⟩⟩⟩
   have ul:=Same.new (o:=.lst ((C5 qs n).map V.str)) hl
   refine⟨l,rfl,⟨_,SqL.of A9⟩,Hs nd (ul _ _ (sG _ _ b6)) A9 (fun y hy=>ins2 y hy) (len2 n) fun G' s'=>?_⟩
   have:=hR G' (ul.trans s')
   rw[Sa hn]at this
   exact this
  generalize ML ns (C5 qs)=B at mB net d7
  have nxd:x≠d:=B0 x6 hd
  have x7:=s7 _ _ x6
  have a7:=s7 _ _ a6
  have b7:=s7 _ _ b6
  have c7:=s7 _ _ c6
  have dc:d≠c:=(B0 c6 hd).symm
  have k7:=k6.trans s7.sm
  refine ex1 rfl ⟨x,T.CMarks,dx,_,rfl,x7,T.clMarks,T.nMarks_struck_of,by simp,?_⟩
  have k8:Sm [x] H7 (upd H7 x (.ins T.CMarks dx (J2 "struck_of" (.ref d) [("names",.ref l1),("full",E1 (2^ns.length-1)),("bit_of",.ref b),("strikers_of",.ref c)]))):=(Sm.refl _ _).upd (by simp)
  have x8:(upd H7 x (.ins T.CMarks dx (J2 "struck_of" (.ref d) [("names",.ref l1),("full",E1 (2^ns.length-1)),("bit_of",.ref b),("strikers_of",.ref c)]))) x=some (.ins T.CMarks dx [("names",.ref l1),("full",E1 (2^ns.length-1)),("bit_of",.ref b),("strikers_of",.ref c),("struck_of",.ref d)]):=by rw[A9];rfl
  generalize upd H7 x (.ins T.CMarks dx (J2 "struck_of" (.ref d) [("names",.ref l1),("full",E1 (2^ns.length-1)),("bit_of",.ref b),("strikers_of",.ref c)]))=H8 at k8 x8⊢
  have a8:=k8 _ _ a7 (nin nx1.symm)
  have b8:=k8 _ _ b7 (nin nxb.symm)
  have c8:=k8 _ _ c7 (nin nxc.symm)
  have d8:=k8 _ _ d7 (nin nxd.symm)
  have k8:=k7.trans k8
  refine hZ6 _ _ ?_
  refine ex1 rfl ⟨b,_,rfl,b8,fun v hv=>?_⟩
  have sv:=Same.new (o:=Gf v b) hv
  have fv:(upd H8 v (Gf v b)) v=some (Gf v b):=A9
  generalize upd H8 v (Gf v b)=H9 at sv fv⊢
  refine⟨v,b,_,rfl,fv,sv _ _ b8,fun o D hD=>?_⟩
  have nDb:D≠b:=fun z=>by rw[z,A9]at hD;cases hD
  have kz:Sm [b] H9 (upd H9 b (.frz o (.dK (kbT ns ns.length)))):=(Sm.refl _ _).upd (by simp)
  have fz:(upd H9 b (.frz o (.dK (kbT ns ns.length)))) b=some (.frz o (.dK (kbT ns ns.length))):=A9
  have hb0:H b=none:=k1.none (nin nxb.symm) hb
  have kx:Sm [x] H (upd H9 b (.frz o (.dK (kbT ns ns.length)))):=(k8.trans sv.sm).updN hb0
  have nb:∀{b':Addr},b'≠b->b'∉[b]:=fun h z=>h (List.mem_singleton.mp z)
  have nab:l1≠b:=B0 a1 hb
  have x9:=kz _ _ (sv _ _ x8) (nb nxb)
  have a9:=kz _ _ (sv _ _ a8) (nb nab)
  have c9:=kz _ _ (sv _ _ c8) (nb bc.symm)
  have nbd:d≠b:=(B0 b6 hd).symm
  have d9:=kz _ _ (sv _ _ d8) (nb nbd)
  generalize upd H9 b (.frz o (.dK (kbT ns ns.length)))=H10 at kz fz kx hD x9 a9 c9 d9⊢
  have lb:(kbT ns ns.length).length=ns.length:=by unfold kbT;rw[List.length_map,List.length_range]
  refine Ai (n:=ns.length) (fun i σ G=>(∃v0,σ = [v0,some (.ref x)])/\Same H10 G/\G D=some (.lst (((List.range i).filter fun k=>(A.getD k 0).testBit k).map fun k=>E1 (2^k)))) ⟨⟨_,rfl⟩,Same.new hD,A9⟩ ?_ ?_ ?_ ?_
  ·rintro i σ G hi ⟨_,sG,_⟩
   exact⟨sG _ _ fz,by rw[lb];exact hi⟩
  ·rintro σ G ⟨_,sG,_⟩
   exact⟨sG _ _ fz,by rw[lb];exact Nat.le_refl _⟩
  ·rintro i σ G y H' N hi ⟨⟨v0,rfl⟩,sG,eG⟩ ⟨rfl,k,hk⟩ hN
   unfold kbT at hk
   rw[List.getElem?_map,List.getElem?_range hi]at hk
   obtain⟨_,rfl⟩:=Prod.mk.inj (Option.some.inj hk)
   refine ex1 rfl (ex1 rfl ⟨x,T.CMarks,dx,_,ex1 rfl ⟨sG _ _ x9,T.clMarks,T.nMarks_strikers_of,rfl,ex1 rfl ⟨c,_,rfl,.inl ⟨_,.inl ((2^i:Nat):Int),.inl (sG _ _ c9),rfl,(Ft A hi).symm⟩,B7 rfl rfl ⟨_,rfl,?_⟩⟩⟩⟩)
   dsimp only
   rw[Eg]
   have hl:=List.length_filter_le (fun k=>(A.getD k 0).testBit k) (List.range i)
   rw[List.length_range]at hl
   refine V8 (fun z=>ex1 rfl ⟨_,eG,by rw[List.length_map,sizeLine_eq];omega,hN _ _ ⟨⟨_,rfl⟩,sG.upd hD,?_⟩⟩) (fun z=>hN _ _ ⟨⟨_,rfl⟩,sG,?_⟩)
   ·rw[A9,List.range_succ,List.filter_append,List.filter_cons,if_pos z,List.map_append];rfl
   ·rw[List.range_succ,List.filter_append,List.filter_cons,if_neg z,List.filter_nil,List.append_nil];exact eG
  rintro σ11 H11 ⟨_,s11,e11⟩
  generalize hLl:(List.range ns.length).filter (fun k=>(A.getD k 0).testBit k)=Ll at e11
  refine⟨D,Ll.map fun k=>((2^k:Nat):Int),rfl,SqL.of (by rw[e11,List.map_map];rfl),?_⟩
  rw[Gi]
  have hL:∀j,((Ll.map fun k=>2^k).sum).testBit j=true↔(A.getD j 0).testBit j=true:=fun j=>by
   rw[Ef (by rw[<-hLl];exact List.filter_sublist.nodup List.nodup_range),<-hLl,List.mem_filter,List.mem_range]
   exact⟨(·.2),fun h=>⟨(net.lt j j ((net.tr j j).mp h)).1,h⟩⟩
  generalize (Ll.map fun k=>2^k).sum=L at hL
  have x11:=s11 _ _ x9
  refine ex1 rfl ⟨x,T.CMarks,dx,_,rfl,x11,T.clMarks,T.nMarks_loops,by simp,?_⟩
  have k12:Sm [x] H11 (upd H11 x (.ins T.CMarks dx (J2 "loops" (.int (L:Int)) [("names",.ref l1),("full",E1 (2^ns.length-1)),("bit_of",.ref b),("strikers_of",.ref c),("struck_of",.ref d)]))):=(Sm.refl _ _).upd (by simp)
  have x12:(upd H11 x (.ins T.CMarks dx (J2 "loops" (.int (L:Int)) [("names",.ref l1),("full",E1 (2^ns.length-1)),("bit_of",.ref b),("strikers_of",.ref c),("struck_of",.ref d)]))) x=some (.ins T.CMarks dx (mf l1 b c d ns.length L)):=by rw[A9];rfl
  generalize upd H11 x (.ins T.CMarks dx (J2 "loops" (.int (L:Int)) [("names",.ref l1),("full",E1 (2^ns.length-1)),("bit_of",.ref b),("strikers_of",.ref c),("struck_of",.ref d)]))=H12 at k12 x12⊢
  refine q c A B L H12 hc0 ((kx.trans s11.sm).trans k12) ⟨⟨dx,l1,b,d,kbT ns ns.length,x12,k12 _ _ (s11 _ _ a9) (nin nx1.symm),.inr ⟨o,k12 _ _ (s11 _ _ fz) (nin nxb.symm)⟩,fun i n h=>Hb nd h,.inl (k12 _ _ (s11 _ _ c9) (nin nxc.symm)),k12 _ _ (s11 _ _ d9) (nin nxd.symm),dc,bc⟩,net,nd,ln,hL⟩ mA mB
noncomputable def Bx(f:List Str->List Nat->List Nat->Nat->Prop):Sp:=fun vs H Q _=>∃(p v:Addr) (m:Nat) (ns:List Str) (ks:List (Str×Str)) (A B:List Nat),vs = [.ref v,.int (m:Int)]/\ViewAt H p v ns ks A B/\ns.length<=100 /\
 ∀b:Bool,(b=true↔f ns A B m)->Q (.bl b) H
theorem V6:FnScope ["_law_view", "_law_mask"] ["_law_view", "_law_mask"] (B4 s_law_stands):=⟨rfl,rfl,rfl,by decide +kernel,rfl,by decide +kernel,by decide +kernel⟩
theorem Ar(T:Tx K mg):FnOk P w K mg base CX0 3 T.law_stands.f T.law_stands.fd ["_law_view", "_law_mask"] (Bx fun ns A B m=>QuietB B m/\∀j,m.testBit j=true->O0 ns.length A B m j):=by
 have G_law_is_quiet:FnOk P w K mg base CX0 2 T.law_is_quiet.f T.law_is_quiet.fd ["_law_view", "_law_mask"] j4:=P5 T
 have G_law_kept:FnOk P w K mg base CX0 2 T.law_kept.f T.law_kept.fd ["_law_view", "_law_mask"] Fp:=r8 T
 have sc:=V6
 refine T.law_stands.F.ok V6 (fun vs H Q E h=>?_) (fun cdv A outer s H vs Q E hr h=>?_)
 ·obtain⟨p,n,a,ss,ps,A,B,rfl,_⟩:=h
  rfl
 ·obtain⟨p,v,m,ns,ks,A,B,rfl,hV,ln,q⟩:=h
  refine⟨_,(B3 (C1 (Ke (D9 T.law_is_quiet G_law_is_quiet (hr.mono (by decide)) (A8 (pv 0) (A8 (pv 1) B1))) (Ks (O3 U1 (C2 M9 (pv 1) (Oo Kp (D9 T.law_kept G_law_kept (hr.mono (by decide)) (A8 (pv 0) (A8 (pv 1) B1))))) B6 (E3 _)))))),?_⟩
  refine ex1 rfl (ex1 rfl ⟨p,v,m,ns,ks,A,B,rfl,hV,ln,fun b hb=>⟨b,rfl,?_⟩⟩)
  refine V8 (fun c=>?_) (fun c=>?_)
  ·refine ex1 rfl (ex1 rfl (ex1 rfl (Qz (a:=p) (b:=v) (c:=m) (d:=ns) (e:=ks) (f:=A) (g:=B) rfl hV ln fun kb hk=>?_)))
   refine ex1 rfl (B7 rfl rfl ⟨rfl,?_⟩)
   refine q _ ?_
   dsimp only
   rw[P3]
   exact⟨fun h=>⟨hb.mp c,fun j hj=>(hk j).mp (h j hj)⟩,fun h j hj=>(hk j).mpr (h.2 j hj)⟩
  ·exact q false ⟨fun z=>(by cases z),fun h=>absurd (hb.mpr h.1) c⟩
end
noncomputable def pB(p:Prop):Bool:=@decide p (Classical.propDecidable p)
theorem pB_iff{p:Prop}:pB p=true↔p:=@decide_eq_true_iff p (Classical.propDecidable p)
theorem Fr{p:Prop}{b:Bool}(h:b=true↔p):b=pB p:=Bool.eq_iff_iff.mpr (h.trans pB_iff.symm)
theorem QuietB.sub{B:List Nat}{m m':Nat}(h:QuietB B m)(s:Sub m' m):QuietB B m':=fun i j hi hj=>h i j (s i hi) (s j hj)
theorem Vh{i m m':Nat}(h:Low i m)(h':Low i m')(e:m ||| 2^i=m' ||| 2^i):m=m':=Nat.eq_of_testBit_eq fun j=>by
 by_cases c:j=i
 ·subst c
  rw[Bool.eq_false_iff.mpr fun z=>Nat.lt_irrefl _ (h j z),Bool.eq_false_iff.mpr fun z=>Nat.lt_irrefl _ (h' j z)]
 ·have:=congrArg (fun z=>z.testBit j) e
  rw[Nat.testBit_or,Nat.testBit_or,Nat.testBit_two_pow,decide_eq_false fun z=>c z.symm,Bool.or_false,Bool.or_false]at this
  exact this
theorem Ja{B fs:List Nat}{i:Nat}(nd:fs.Nodup)(hm:∀m,m∈fs↔Low i m/\QuietB B m):(fs ++(fs.filter fun m=>pB (QuietB B (m ||| 2^i))).map fun m=>m ||| 2^i).Nodup/\∀m,m∈(fs ++(fs.filter fun m=>pB (QuietB B (m ||| 2^i))).map fun m=>m ||| 2^i)↔Low (i+1) m/\QuietB B m:=by
 have bi:∀m,(m ||| 2^i).testBit i=true:=fun m=>by rw[Nat.testBit_or,Nat.testBit_two_pow_self,Bool.or_true]
 constructor
 ·refine List.nodup_append.mpr ⟨nd,List.pairwise_map.mpr (List.Pairwise.imp_of_mem (fun{a b} ha hb ne e=>ne (Vh ((hm a).mp (List.mem_filter.mp ha).1).1 ((hm b).mp (List.mem_filter.mp hb).1).1 e)) (nd.sublist List.filter_sublist)),fun a ha b hb e=>?_⟩
  obtain⟨c,_,rfl⟩:=List.mem_map.mp hb
  have:=((hm a).mp ha).1 i (by rw[e];exact bi c)
  omega
 ·intro m
  rw[List.mem_append,hm,List.mem_map]
  constructor
  ·rintro(⟨h1,h2⟩ | ⟨m0,h,rfl⟩)
   ·exact⟨fun j hj=>Nat.lt_succ_of_lt (h1 j hj),h2⟩
   ·obtain⟨h1,h2⟩:=List.mem_filter.mp h
    refine⟨fun j hj=>?_,pB_iff.mp h2⟩
    rcases(n6 m0 i j).mp hj with z | z
    ·exact Nat.lt_succ_of_lt (((hm m0).mp h1).1 j z)
    ·omega
  ·rintro⟨h1,h2⟩
   by_cases c:m.testBit i=true
   ·have e:m % 2^i ||| 2^i=m:=Nat.eq_of_testBit_eq fun j=>by
     rw[Nat.testBit_or,Nat.testBit_mod_two_pow,Nat.testBit_two_pow,Bool.eq_iff_iff,Bool.or_eq_true,Bool.and_eq_true,decide_eq_true_iff,decide_eq_true_iff]
     constructor
     ·rintro(⟨_,z⟩ | rfl)
      ·exact z
      ·exact c
     ·intro z
      by_cases cj:j<i
      ·exact .inl ⟨cj,z⟩
      ·have:=h1 j z
       exact .inr (by omega)
    have sb:Sub (m % 2^i) m:=fun j z=>by
     rw[Nat.testBit_mod_two_pow,Bool.and_eq_true]at z
     exact z.2
    refine .inr ⟨m % 2^i,List.mem_filter.mpr ⟨(hm _).mpr ⟨fun j z=>?_,h2.sub sb⟩,pB_iff.mpr (by rw[e];exact h2)⟩,e⟩
    rw[Nat.testBit_mod_two_pow,Bool.and_eq_true,decide_eq_true_iff]at z
    exact z.1
   ·refine .inl ⟨fun j z=>?_,h2⟩
    have:=h1 j z
    rcases Nat.lt_or_ge j i with y | y
    ·exact y
    ·exact absurd (show m.testBit i=true by rw[show i=j by omega];exact z) c
section
variable{P:Program}{w:World}{K:PySem.W.Frag}{mg:Str->Option Value}{base:Heap}
theorem K2:FnScope ["_law_view", "_law_found", "_law_k", "_law_mask"] ["_law_view"] (B4 s_law_all_standing):=⟨rfl,rfl,rfl,by decide +kernel,rfl,by decide +kernel,by decide +kernel⟩
noncomputable def Q8:Sp:=fun vs H Q _=>∃(p v:Addr) (ns:List Str) (ks:List (Str×Str)) (A B:List Nat),vs = [.ref v]/\ViewAt H p v ns ks A B/\ns.length<=10 /\
 ∀l (Ms:List Nat) H',H l=none->Same H H'->H' l=some (.lst (Ms.map E1))->Ms.Nodup->(∀m,m∈Ms↔StandM ns.length A B m)->Ms.length<=1024->Q (.ref l) H'
set_option maxHeartbeats 2000000 in
theorem T9(T:Tx K mg):FnOk P w K mg base CX0 4 T.law_all_standing.f T.law_all_standing.fd ["_law_view"] Q8:=by
 have G_law_is_quiet:FnOk P w K mg base CX0 2 T.law_is_quiet.f T.law_is_quiet.fd ["_law_view", "_law_mask"] j4:=P5 T
 have G_law_stands:FnOk P w K mg base CX0 3 T.law_stands.f T.law_stands.fd ["_law_view", "_law_mask"] (Bx fun ns A B m=>QuietB B m/\∀j,m.testBit j=true->O0 ns.length A B m j):=Ar T
 have sc:=K2
 refine T.law_all_standing.F.ok K2 (fun vs H Q E h=>?_) (fun cdv A outer s H vs Q E hr h=>?_)
 ·obtain⟨p,v,ns,ks,A,B,rfl,_⟩:=h
  rfl
 ·obtain⟨p,v,ns,ks,A,B,rfl,hV,ln,q⟩:=h
  obtain⟨⟨a,s,u,e1,e2,e3,e4,_⟩,mA,mB⟩:=id hV
  refine⟨_,(B2 (C6 (i:=1) sc.nd rfl (by first | exact Or.inl rfl | exact Or.inr rfl) (M0 (A8 B6 B1)))
   (B2 (J9 PassesOwn.never rfl (Tf T.b_range (A8 (E2 (Q6 K) T.b_len O8 (A8 (K4 (ixL K) (pv 0) B6 (fun _ _=>rfl)) B1)) B1)) (C4 (i:=2) sc.nd rfl (by first | exact Or.inl rfl | exact Or.inr rfl))
   (B3 (J9 PassesOwn.never rfl (piL K (Ik (l7 K) T.b_list T8 (A8 (pv 1) B1))) (C4 (i:=3) sc.nd rfl (by first | exact Or.inl rfl | exact Or.inr rfl))
   (B3 (J7 (K7 (D9 T.law_is_quiet G_law_is_quiet (hr.mono (by decide)) (A8 (pv 0) (A8 (C2 U6 (pv 3) (C2 y3 B6 (pv 2))) B1)))) (B3 (D8 (Gs K PySem.F.plainAttrs_list PySem.F.slot_list_append PySem.F.type_list_append E8 (pv 1) (A8 (C2 U6 (pv 3) (C2 y3 B6 (pv 2))) B1)))) D0)))))
   (B3 (C1 (Q5 (N':=["_law_mask", "_law_view"]) (cap:=[none,some 0]) (cl:=[("_law_view",_)]) (K0 ⟨⟨rfl,rfl,rfl,rfl⟩,trivial⟩ ⟨rfl,trivial⟩) rfl (piL K (pv 1)) (fun _ _ _ _=>by exact⟨(pgC 0),(T0 (K7 (D9 T.law_stands G_law_stands (hr.mono (by decide)) (A8 (pv 1) (A8 (pv 0) B1))))),(pv 0)⟩)))))),?_⟩
  refine B8 fun N1 hN1=>?_
  refine⟨by show 1<=sizeLine;decide,fun l hl=>?_⟩
  have hl0:=hl
  have ul:=Same.new (o:=.lst [.int 0]) hl
  have fl:(upd H l (.lst [.int 0])) l=some (.lst ([0].map E1)):=A9
  generalize upd H l (.lst [.int 0])=H1 at ul fl⊢
  refine hN1 _ _ (B8 fun N2 hN2=>?_)
  refine ex1 rfl ⟨v,_,B7 rfl rfl ⟨SqL.of (ul _ _ e1),rfl,B7 (a:=a) rfl (.inl (SqL.of (ul _ _ e2))) (ex1 rfl ⟨?_,?_,?_⟩)⟩⟩
  ·omega
  ·rw[List.length_map];omega
  rw[List.length_map,Int.toNat_natCast]
  have lz:∀m,m∈[0]↔Low 0 m/\QuietB B m:=fun m=>by
   rw[List.mem_singleton]
   constructor
   ·rintro rfl
    exact⟨Low.zero _,fun i j h=>by rw[Nat.zero_testBit]at h;cases h⟩
   ·rintro⟨h,_⟩
    exact Nat.eq_of_testBit_eq fun j=>by rw[Nat.zero_testBit];exact Bool.eq_false_iff.mpr fun z=>absurd (h j z) (Nat.not_lt_zero _)
  refine J5 (fun i σ G=>(∃v2 v3,σ = [some (.ref v),some (.ref l),v2,v3])/\Same H G/\∃fs:List Nat,G l=some (.lst (fs.map E1))/\fs.Nodup/\(∀m,m∈fs↔Low i m/\QuietB B m)/\fs.length<=2^i) ⟨⟨_,_,rfl⟩,ul,[0],fl,List.pairwise_singleton _ _,lz,by decide⟩ ?_ ?_
  ·rintro i σ G hi ⟨⟨v2,v3,rfl⟩,sG,fs,eG,nG,mG,lG⟩ D1 hD1 _
   rw[Int.zero_add]
   have p2:2^i<=2^9:=Nat.pow_le_pow_right (by decide) (by omega)
   refine ex1 rfl ⟨l,_,rfl,.inl (SqL.of eG),fun c hc=>?_⟩
   have uc:=Same.new (o:=.lst (fs.map E1)) hc
   have fc:(upd G c (.lst (fs.map E1))) c=some (.lst (fs.map E1)):=A9
   have ncl:c≠l:=(B0 eG hc).symm
   generalize upd G c (.lst (fs.map E1))=G1 at uc fc⊢
   have s1:=sG.trans uc
   have hc0:H c=none:=sG.free hc
   refine⟨c,rfl,⟨_,SqL.of fc⟩,T7 (asL (SqL.of fc)) (fun j σ G2=>(∃v3,σ = [some (.ref v),some (.ref l),some (.int (i:Int)),v3])/\Same H G2/\G2 c=some (.lst (fs.map E1))/\G2 l=some (.lst ((fs ++((fs.take j).filter fun m=>pB (QuietB B (m ||| 2^i))).map fun m=>m ||| 2^i).map E1))) ⟨⟨_,rfl⟩,s1,fc,by rw[List.take_zero,List.filter_nil,List.map_nil,List.append_nil];exact uc _ _ eG⟩ (fun j σ G2 _ h o e=>by rw[fc]at e;cases e;exact h.2.2.1) ?_ ?_⟩
   ·rintro j σ G2 y hy ⟨⟨v3,rfl⟩,s2,c2,l2⟩ D2 hD2 _
    rw[List.getElem?_map]at hy
    obtain⟨m,hm,rfl⟩:=Option.map_eq_some_iff.mp hy
    have lj:=(List.getElem?_eq_some_iff.mp hm).1
    refine ex1 rfl (ex1 rfl (ex1 rfl (B7 rfl rfl ⟨⟨by omega,by omega,by decide⟩,B7 rfl rfl ?_⟩)))
    dsimp only
    rw[Ti,show E1 m=V.int (m:Int)from rfl]
    refine⟨p,v,m ||| 2^i,ns,ks,A,B,by rw[bor];rfl,hV.same s2,by omega,fun b hb=>⟨_,rfl,?_⟩⟩
    have eb:=Fr hb
    have hs:(fs.take (j+1)).filter (fun m=>pB (QuietB B (m ||| 2^i))) =(fs.take j).filter (fun m=>pB (QuietB B (m ||| 2^i)))++if pB (QuietB B (m ||| 2^i))=true then [m]else []:=by
     rw[take_succ hm,List.filter_append,List.filter_cons,List.filter_nil]
    have hl:=List.length_filter_le (fun m=>pB (QuietB B (m ||| 2^i))) (fs.take j)
    rw[List.length_take]at hl
    refine V8 (fun z=>?_) (fun z=>hD2 _ _ ⟨⟨_,rfl⟩,s2,c2,?_⟩)
    ·refine ex1 rfl ⟨.inl ⟨rfl,_,SqL.of l2⟩,ex1 rfl (ex1 rfl (B7 rfl rfl ⟨⟨by omega,by omega,by decide⟩,B7 rfl rfl ?_⟩))⟩
     dsimp only
     rw[Ti]
     refine⟨l,_,_,rfl,by rw[bor],l2,by rw[List.length_map,List.length_append,List.length_map,sizeLine_eq];omega,hD2 _ _ ⟨⟨_,rfl⟩,s2.upd hl0,(B5 ncl).trans c2,?_⟩⟩
     rw[A9,hs,if_pos (by rw[<-eb];exact z)]
     simp only[List.map_append,List.map_cons,List.map_nil,List.append_assoc]
     rfl
    ·rw[hs,if_neg (by rw[<-eb];exact z),List.append_nil];exact l2
   ·rintro σ G2 ⟨⟨v3,rfl⟩,s2,c2,l2⟩
    rw[List.length_map,List.take_length]at l2
    obtain⟨n2,m2⟩:=Ja nG mG
    refine hD1 _ _ ⟨⟨_,_,rfl⟩,s2,_,l2,n2,m2,?_⟩
    have:=List.length_filter_le (fun m=>pB (QuietB B (m ||| 2^i))) fs
    rw[List.length_append,List.length_map,Nat.pow_succ]
    omega
  ·rintro σ G ⟨⟨v2,v3,rfl⟩,sG,fs,eG,nG,mG,lG⟩
   have p2:2^ns.length<=2^10:=Nat.pow_le_pow_right (by decide) ln
   refine hN2 _ _ ?_
   refine ex1 rfl ⟨l,rfl,⟨_,SqL.of eG⟩,fun D hD=>?_⟩
   refine u4 E1 (asL (SqL.of eG)) (fun m=>pB (QuietB B m/\∀j,m.testBit j=true->O0 ns.length A B m j)) (by omega) hD (fun m hm G1 s1 M hM=>?_) (fun m hm G1 s1 M hM=>ex1 rfl hM) fun σ' G1 s1 e1=>?_
   ·exact ex1 rfl (ex1 rfl ⟨p,v,m,ns,ks,A,B,rfl,(hV.same sG).same s1,by omega,fun b hb=>⟨_,rfl,by rw[Fr hb];exact hM G1 fun b o e=>e⟩⟩)
   ·refine q D _ G1 (sG.free hD) (sG.trans s1) e1 (nG.sublist List.filter_sublist) (fun m=>?_) (Nat.le_trans (List.length_filter_le ..) (by omega))
    rw[List.mem_filter,mG,pB_iff]
    exact⟨fun h=>⟨h.1.1,h.2⟩,fun h=>⟨⟨h.1,h.2.1⟩,h.2⟩⟩
end
noncomputable def Anti(l:List Nat):Prop:=l.Pairwise fun a b=>¬Sub a b/\¬Sub b a
theorem Anti.nodup{l:List Nat}(h:Anti l):l.Nodup:=h.imp fun z e=>z.1 (by rw[e];exact fun j y=>y)
theorem Anti.few{n:Nat}(hn:n<=10){l:List Nat}(h:Anti l)(lo:∀m∈l,Low n m):l.length<=300:=Hw hn h.nodup lo fun a ha b hb s=>by
 obtain⟨i,hi,ei⟩:=List.getElem_of_mem ha
 obtain⟨j,hj,ej⟩:=List.getElem_of_mem hb
 have pw:=List.pairwise_iff_getElem.mp h
 rcases Nat.lt_trichotomy i j with z | z | z
 ·have:=(pw i j hi hj z).1
  rw[ei,ej]at this
  exact absurd s this
 ·subst z;rw[<-ei,<-ej]
 ·have:=(pw j i hj hi z).2
  rw[ei,ej]at this
  exact absurd s this
theorem Sf(x y:Nat):decide (V.int (Builtin.bitAnd (x:Int) (y:Int))=V.int (x:Int))=true↔Sub x y:=by
 rw[decide_eq_true_iff,Qk]
 constructor
 ·intro e j hj
  have e:x &&& y=x:=by have:=V.int.inj e;omega
  rw[<-e,Nat.testBit_and,Bool.and_eq_true]at hj
  exact hj.2
 ·intro h
  have e:x &&& y=x:=Nat.eq_of_testBit_eq fun j=>by
   rw[Nat.testBit_and,Bool.eq_iff_iff,Bool.and_eq_true]
   exact⟨(·.1),fun z=>⟨z,h j z⟩⟩
  rw[e]
theorem Rg{H G:Hp}{l:Addr}(s:Same H G):Same (er H l) (er G l):=fun b o e=>by
 have:b≠l:=fun z=>by subst z;unfold er at e;rw[if_pos rfl]at e;cases e
 rw[Nz this]at e⊢
 exact s b o e
section
variable{P:Program}{w:World}{K:PySem.W.Frag}{mg:Str->Option Value}{base:Heap}
noncomputable def S0(C f:Addr)(Tg:Tgt)(k:Nat):Sp:=fun vs H Q _=>∃(x c l:Addr) (ns:List Str) (A B:List Nat) (L ch ba:Nat) (fs:List Nat),vs = [.ref x,.ref f,.bl true,.int (ch:Int),.int (ba:Int),.ref l]/\MarksAt C (er H l) x c ns A B L/\ns.length<=10/\Low ns.length ch/\Low ns.length ba/\und ns.length ch ba<=k/\H l=some (.lst (fs.map E1)) /\
 Anti fs/\(∀g∈fs,Low ns.length g)/\(∀g∈fs,∀m,Fits ch ba m->¬Sub g m) /\
 ∀(Ls:List Nat) H',Sm [c,l] H H'->MarksAt C (er H' l) x c ns A B L->H' l=some (.lst ((fs++Ls).map E1))->Anti (fs++Ls)->(∀m∈Ls,Tg ns.length A B m/\Fits ch ba m)->(∀m,Tg ns.length A B m->Fits ch ba m->∃g∈fs++Ls,Sub m g)->Q .non H'
set_option maxHeartbeats 4000000 in
theorem t9(T:Tx K mg){f:Addr}{fd:FuncData}{Tg:Tgt}{n k:Nat}{S:Sp}(tl:∀n A B m,Tg n A B m->Low n m)(G_settle:FnOk P w K mg base CX0 n f fd ["marks", "chosen", "barred"] (d0 T.CMarks Tg))(hk_settle:PySem.W.keepIn K (.ref f)=true)(hb_settle:Binds K fd ["marks", "chosen", "barred"] [])
  (h1:1<=n) (G_gather:FnOk P w K mg base (CXe P w) n T.gather.f T.gather.fd ["marks", "settle", "greatest", "chosen", "barred", "found"] S) (hS:∀k',k=k'+1->S=S0 T.CMarks f Tg k') :
  FnOk P w K mg base (CXe P w) (n+1) T.gather.f T.gather.fd ["marks", "settle", "greatest", "chosen", "barred", "found"] (S0 T.CMarks f Tg k):=by
 have G_first_bit:FnOk P w K mg base CX0 n T.first_bit.f T.first_bit.fd ["some"] Gz:=(Ca T).mono h1
 have sc:=Cb
 refine T.gather.F.okE Cb (fun vs H Q E h=>?_) (fun cdv A outer s H vs Q E hr h=>?_)
 ·obtain⟨x,c,l,ns,A,B,L,ch,ba,fs,rfl,_⟩:=h
  rfl
 ·obtain⟨x,c,l,ns,A,B,L,ch,ba,fs,rfl,hR,ln,loc,lob,hu,el,an,lof,nof,q⟩:=h
  have hM:=hR.same (At H l)
  have lf:=an.few ln lof
  refine⟨_,(B2 (Z9 (Os (i:=1) G_settle (hr.mono (Nat.le_refl _)) hk_settle hb_settle K5 (A8 (pv 0) (A8 (pv 3) (A8 (pv 4) B1)))) (pgT K (n:=2) (D4 (C4 (i:=3) sc.nd rfl (by first | exact Or.inl rfl | exact Or.inr rfl)) (D4 (C4 (i:=4) sc.nd rfl (by first | exact Or.inl rfl | exact Or.inr rfl)) O1))))
   (B2 (J7 (ptV K (C2 M9 (pv 3) (pv 4))) (B3 Es) D0)
   (B2 (C6 (i:=6) sc.nd rfl (by first | exact Or.inl rfl | exact Or.inr rfl) (C2 He (peF K (pv 0)) (C2 U6 (pv 3) (pv 4))))
   (B2 (C6 (i:=7) sc.nd rfl (by first | exact Or.inl rfl | exact Or.inr rfl) (C2 U6 (pv 3) (pv 6)))
   (B2 (J7 (PW.pt (Cy (K7 (pv 2)) (Aj (K7 (E2 (Qp K) T.b_any Qm (A8 (Q5 (N':=["one", "most"]) (cap:=[none,some 7]) (cl:=[("most",_)]) (K0 ⟨⟨rfl,rfl,rfl,rfl⟩,trivial⟩ ⟨rfl,trivial⟩) rfl (piL K (pv 5)) (fun _ _ _ _=>by exact⟨(pgC 0),E5,(O3 U1 (C2 M9 (pv 1) (pv 0)) (pv 1) (E3 _))⟩)) B1)))))) (B3 Es) D0)
   (B2 (J7 (S8 (ptV K (pv 6))) (B2 (J7 (C8 U1 (E2 (Q6 K) T.b_len O8 (A8 (pv 5) B1)) (Vb T.gMOST) (E3 _)) (B3 (Jv cxE.bx T.xcTooMany T.niTooMany rfl T.mgTooMany (A8 z7 B1))) D0)
   (B2 (D8 (Gs K PySem.F.plainAttrs_list PySem.F.slot_list_append PySem.F.type_list_append E8 (pv 5) (A8 (pv 3) B1)))
   (B3 Es))) D0)
   (B2 (C6 (i:=8) sc.nd rfl (by first | exact Or.inl rfl | exact Or.inr rfl) (D9 T.first_bit G_first_bit (hr.mono (Nat.le_refl _)) (A8 (pv 6) B1)))
   (B2 (D8 (Hi cxE.bx T.gather G_gather (hr.mono (Nat.le_refl _)) (@A8 _ _ _ _ _ (pv 0) (@A8 _ _ _ _ _ (pv 1) (@A8 _ _ _ _ _ (pv 2) (@A8 _ _ _ _ _ (C2 U6 (pv 3) (pv 8)) (@A8 _ _ _ _ _ (pv 4) (@A8 _ _ _ _ _ (pv 5) B1 (by rfl)) (by rfl)) (by rfl)) (by rfl)) (by rfl)) (by rfl))))
   (B3 (D8 (Hi cxE.bx T.gather G_gather (hr.mono (Nat.le_refl _)) (@A8 _ _ _ _ _ (pv 0) (@A8 _ _ _ _ _ (pv 1) (@A8 _ _ _ _ _ (pv 2) (@A8 _ _ _ _ _ (pv 3) (@A8 _ _ _ _ _ (C2 U6 (pv 4) (pv 8)) (@A8 _ _ _ _ _ (pv 5) B1 (by rfl)) (by rfl)) (by rfl)) (by rfl)) (by rfl)) (by rfl))))))))))))),?_⟩
  refine B8 fun N1 hN1=>?_
  refine⟨rfl,ex1 rfl (ex1 rfl (ex1 rfl ⟨x,c,ns,A,B,L,ch,ba,rfl,hM,loc,lob,fun t c1 b1 H1 k1 M1 et lo1 lo2 sub1 sub2 snd cpl=>?_⟩))⟩
  refine⟨t,_,rfl,SqT.of et,rfl,_,_,rfl,_,_,rfl,rfl,?_⟩
  have nlc:l≠c:=let⟨_,_,_,_,_,_,_,_,_,e5,_⟩:=hM.ex;Rx e5 el (fun _ z=>by cases z) fun _ _ z=>by cases z
  have el1:=Sm1 k1 el nlc
  have R1:=hR.er k1 M1 nlc
  have k1:Sm [c,l] H H1:=fun b o e nb=>k1 b o e fun z=>nb (List.mem_cons.mpr (.inl (List.mem_singleton.mp z)))
  have none:∀G,Sm [c,l] H G->MarksAt T.CMarks (er G l) x c ns A B L->G l=some (.lst (fs.map E1))->(∀m,Tg ns.length A B m->Fits ch ba m->∃g∈fs,Sub m g)->Q .non G:=fun G kG RG eG h=>q [] G kG RG (by rw[List.append_nil];exact eG) (by rw[List.append_nil];exact an) (fun m z=>absurd z List.not_mem_nil) (by rw[List.append_nil];exact h)
  refine hN1 _ _ (B8 fun N2 hN2=>?_)
  refine ex1 rfl (ex1 rfl (B7 rfl rfl ⟨_,rfl,V8 (fun cm=>?_) (fun cm=>?_)⟩))
  ·obtain⟨j,j1,j2⟩:=(Bb c1 b1).mp cm
   exact none H1 k1 R1 el1 fun m z y=>absurd j2 ((snd m z y).2 j ((snd m z y).1 j j1))
  have dis:∀j,c1.testBit j=true->¬b1.testBit j=true:=fun j z y=>cm ((Bb c1 b1).mpr ⟨j,z,y⟩)
  refine hN2 _ _ (B8 fun N3 hN3=>?_)
  obtain⟨dx,a,b,d,kb,e1,_⟩:=M1.ex
  obtain⟨u,eu,hu2⟩:=Wf (2^ns.length-1) (c1 ||| b1) fun j hj=>by
   rw[Nat.testBit_or,Bool.or_eq_true]at hj
   exact(J3 _ _).mpr (hj.elim (lo1 j) (lo2 j))
  have hu2:∀j,u.testBit j=true↔j<ns.length/\¬c1.testBit j=true/\¬b1.testBit j=true:=fun j=>by
   rw[hu2,J3,Nat.testBit_or,Bool.or_eq_true,not_or]
  refine ex1 rfl ⟨x,T.CMarks,dx,_,ex1 rfl ⟨e1,T.clMarks,T.nMarks_full,rfl,ex1 rfl (ex1 rfl (B7 rfl rfl ?_))⟩⟩
  dsimp only
  rw[bor]
  refine B7 rfl rfl ?_
  dsimp only
  rw[eu]
  refine hN3 _ _ (B8 fun N4 hN4=>?_)
  refine ex1 rfl (ex1 rfl (B7 rfl rfl ?_))
  dsimp only
  rw[bor]
  generalize hmost:(c1 ||| u)=most
  have hm:∀m,Tg ns.length A B m->Fits ch ba m->Sub m most:=fun m z y j hj=>by
   have f1:=snd m z y
   rw[<-hmost,Nat.testBit_or,Bool.or_eq_true]
   by_cases h:c1.testBit j=true
   ·exact .inl h
   ·exact .inr ((hu2 j).mpr ⟨tl _ _ _ _ z j hj,h,f1.2 j hj⟩)
  refine hN4 _ _ (B8 fun N5 hN5=>?_)
  refine ex1 rfl ⟨_,rfl,Qg ?_⟩
  refine ex1 rfl ⟨l,rfl,⟨_,SqL.of el1⟩,fun D hD=>?_⟩
  refine u4 (fun g=>V.bl (pB (Sub most g))) (asL (SqL.of el1)) (fun _=>true) (by omega) hD (fun g hg G sG M hM=>hM G fun b o e=>e) (fun g hg G sG M hM=>?_) fun σ' G2 s2 e2=>?_
  ·refine ex1 rfl (ex1 rfl (B7 rfl rfl (ex1 rfl ⟨rfl,?_⟩)))
   rw[<-Fr (Sf most g)]at hM
   exact hM
  rw[List.filter_eq_self.mpr fun _ _=>rfl]at e2
  have e2:G2 D=some (.lst ((fs.map fun g=>pB (Sub most g)).map V.bl)):=by rw[e2,List.map_map];rfl
  refine⟨D,_,rfl,SqL.of e2,_,rfl,?_⟩
  have k2:=k1.trans s2.sm
  have R2:=R1.same (Rg s2)
  have el2:=s2 _ _ el1
  have M2:=M1.same s2
  refine V8 (fun ya=>?_) (fun na=>?_)
  ·obtain⟨_,hb,e⟩:=List.any_eq_true.mp ya
   obtain⟨g,hg,rfl⟩:=List.mem_map.mp hb
   exact none G2 k2 R2 el2 fun m z y=>⟨g,hg,fun j hj=>pB_iff.mp e j (hm m z y j hj)⟩
  have nsub:∀g∈fs,¬Sub most g:=fun g hg h=>na (List.any_eq_true.mpr ⟨_,List.mem_map.mpr ⟨g,hg,rfl⟩,pB_iff.mpr h⟩)
  refine hN5 _ _ (B8 fun N6 hN6=>?_)
  refine ex1 rfl ⟨_,rfl,V8 (fun z0=>?_) (fun z0=>?_)⟩
  ·have u0:u=0:=by
    rw[Bool.not_eq_true',bne_eq_false_iff_eq]at z0
    omega
   have em:most=c1:=by rw[<-hmost,u0,Nat.or_zero]
   have all:∀j,j<ns.length->c1.testBit j=true\/b1.testBit j=true:=fun j hj=>by
    by_cases h:c1.testBit j=true
    ·exact .inl h
    ·by_cases h':b1.testBit j=true
     ·exact .inr h'
     ·have:=(hu2 j).mpr ⟨hj,h,h'⟩
      rw[u0,Nat.zero_testBit]at this
      cases this
   have tg:=cpl dis all
   have fc:Fits ch ba c1:=(show Fits c1 b1 c1 from⟨fun j h=>h,dis⟩).mono sub1 sub2
   have an2:Anti (fs ++ [c1]):=List.pairwise_append.mpr ⟨an,List.pairwise_singleton _ _,fun g hg b hb=>by
    rw[List.mem_singleton.mp hb]
    exact⟨nof g hg c1 fc,fun h=>nsub g hg (em▸h)⟩⟩
   have l300:=an2.few ln fun m hm=>(List.mem_append.mp hm).elim (lof m) fun h=>by rw[List.mem_singleton.mp h];exact lo1
   rw[List.length_append,List.length_singleton]at l300
   have lm:(fs.map E1).length=fs.length:=List.length_map ..
   refine B8 fun N7 hN7=>?_
   refine ex1 rfl (B7 (a:=l) rfl (.inl (SqL.of el2)) ⟨rfl,_,rfl,V8 (fun e3=>?_) (fun e3=>?_)⟩)
   ·have:=V.int.inj (of_decide_eq_true e3)
    rw[lm]at this
    omega
   ·refine hN7 _ _ (B8 fun N8 hN8=>?_)
    refine ex1 rfl ⟨.inl ⟨rfl,_,SqL.of el2⟩,ex1 rfl ⟨l,_,_,rfl,rfl,el2,by rw[lm,sizeLine_eq];omega,hN8 _ _ ?_⟩⟩
    have:=q [c1] (upd G2 l (.lst (fs.map E1 ++ [.int (c1:Int)]))) (k2.upd (by simp)) (by rw[Tn];exact R2) (by rw[A9,List.map_append];rfl) an2 (fun m hm=>by rw[List.mem_singleton.mp hm];exact⟨tg,fc⟩) fun m z y=>⟨c1,List.mem_append_right _ (List.mem_singleton.mpr rfl),by rw[Lg (tl _ _ _ _ z) all (snd m z y)];exact fun j h=>h⟩
    exact this
  ·have upos:0<u:=by
    rcases Nat.eq_zero_or_pos u with h | h
    ·exact absurd (by rw[h];rfl) z0
    ·exact h
   refine hN6 _ _ (B8 fun N7 hN7=>?_)
   refine ex1 rfl ⟨u,rfl,upos,fun kk hkk=>?_⟩
   obtain⟨k0,nc,nb⟩:=(hu2 kk).mp hkk
   have ss:∀a:Nat,Sub a (a ||| 2^kk):=fun a j h=>by rw[Nat.testBit_or,h];rfl
   have sb:∀a:Nat,(a ||| 2^kk).testBit kk=true:=fun a=>by rw[Nat.testBit_or,Nat.testBit_two_pow_self,Bool.or_true]
   have un1:=Oy (n:=ns.length) sub1 sub2
   have un2:=Qe (n:=ns.length) (ss c1) (fun j h=>h:Sub b1 b1) k0 ⟨nc,nb⟩ (.inl (sb c1))
   have un3:=Qe (n:=ns.length) (fun j h=>h:Sub c1 c1) (ss b1) k0 ⟨nc,nb⟩ (.inr (sb b1))
   obtain⟨k',rfl⟩:∃k',k=k'+1:=⟨k-1,by omega⟩
   have hSS:=hS k' rfl
   subst hSS
   refine hN7 _ _ (B8 fun N8 hN8=>?_)
   refine ex1 rfl (ex1 rfl (ex1 rfl (ex1 rfl (ex1 rfl (B7 rfl rfl ?_)))))
   refine ex1 rfl (ex1 rfl ⟨x,c,l,ns,A,B,L,c1 ||| 2^kk,b1,fs,by dsimp only;rw[bor];rfl,R2,ln,lo1.or k0,lo2,by omega,el2,an,lof,fun g hg m h=>nof g hg m ((fits_or.mp h).1.mono sub1 sub2),fun L1 H3 k3 R3 el3 an3 m3 cv3=>?_⟩)
   refine hN8 _ _ ?_
   refine ex1 rfl (ex1 rfl (ex1 rfl (ex1 rfl (ex1 rfl (ex1 rfl (B7 rfl rfl ?_))))))
   refine ex1 rfl ⟨x,c,l,ns,A,B,L,c1,b1 ||| 2^kk,fs++L1,by dsimp only;rw[bor];rfl,R3,ln,lo1,lo2.or k0,by omega,el3,an3,fun m hm=>(List.mem_append.mp hm).elim (lof m) fun h=>tl _ _ _ _ (m3 m h).1,fun g hg m h=>?_,fun L2 H4 k4 R4 el4 an4 m4 cv4=>?_⟩
   ·rcases List.mem_append.mp hg with hg | hg
    ·exact nof g hg m ((fits_bar.mp h).1.mono sub1 sub2)
    ·exact fun z=>(fits_bar.mp h).2 (z kk (fits_or.mp (m3 g hg).2).2)
   ·rw[List.append_assoc]at el4 an4 cv4
    refine q (L1++L2) H4 (k2.trans (k3.trans k4)) R4 el4 an4 (fun m hm=>?_) fun m z y=>?_
    ·rcases List.mem_append.mp hm with h | h
     ·exact⟨(m3 m h).1,(fits_or.mp (m3 m h).2).1.mono sub1 sub2⟩
     ·exact⟨(m4 m h).1,(fits_bar.mp (m4 m h).2).1.mono sub1 sub2⟩
    ·have f1:=snd m z y
     by_cases h:m.testBit kk=true
     ·obtain⟨g,hg,sg⟩:=cv3 m z (fits_or.mpr ⟨f1,h⟩)
      refine⟨g,?_,sg⟩
      rw[<-List.append_assoc]
      exact List.mem_append_left _ hg
     ·exact cv4 m z (fits_bar.mpr ⟨f1,h⟩)
theorem w8(T:Tx K mg){f:Addr}{fd:FuncData}{Tg:Tgt}{n:Nat}(tl:∀n A B m,Tg n A B m->Low n m)(G:FnOk P w K mg base CX0 n f fd ["marks", "chosen", "barred"] (d0 T.CMarks Tg))(hk:PySem.W.keepIn K (.ref f)=true)(hb:Binds K fd ["marks", "chosen", "barred"] [])(h1:1<=n) :
  ∀k,FnOk P w K mg base (CXe P w) (n+1+k) T.gather.f T.gather.fd ["marks", "settle", "greatest", "chosen", "barred", "found"] (S0 T.CMarks f Tg k)
 | 0=>t9 T tl G hk hb h1 Oc fun k' e=>by omega
 | k+1=>t9 (n:=n+1+k) T tl (G.mono (by omega)) hk hb (by omega) (w8 T tl G hk hb h1 k) fun k' e=>by cases e;rfl
end
structure LLn(H0 H:Hp)(ts:List (Addr×List Str)):Prop where
 at_:∀t∈ts,H t.1=some (.lst (t.2.map V.str))
 nd:(ts.map fun t=>t.1).Nodup
 new:∀t∈ts,H0 t.1=none
theorem LLn.same{H0 H H':Hp}{ts:List (Addr×List Str)}(h:LLn H0 H ts)(s:Same H H'):LLn H0 H' ts:=⟨fun t ht=>s _ _ (h.at_ t ht),h.nd,h.new⟩
theorem Ga{J:It}{l D:Addr}{H:Hp}{ns:List Str}{Ms:List Nat}{r:St}{v0:Option V}{te:TE}{Q:St->Hp->Prop}(as:AsSeq J (Ms.map E1) l H)(len:Ms.length<=5000)(hD:H D=none)
  (step:∀m G (R:VK),Same H G->(∀z G',G z=none->Same G G'->G' z=some (.lst ((setOf ns m).map V.str))->R (.ref z) G')->te (some (E1 m)::r) G R)
  (q:∀σ G (ts:List (Addr×List Str)),Same H G->G D=some (.lst (ts.map fun t=>V.ref t.1))->LLn H G ts->(∀t∈ts,t.1≠D)->(ts.map fun t=>t.2)=Ms.map (setOf ns)->Q σ G):Ib (T4 0) Ep (Cr D te) J (v0::r) (upd H D (.lst [])) Q:=by
 refine i8 as (fun i σ G=>(∃v,σ=v::r)/\Same H G/\∃ts:List (Addr×List Str),G D=some (.lst (ts.map fun t=>V.ref t.1))/\LLn H G ts/\(∀t∈ts,t.1≠D)/\(ts.map fun t=>t.2) =(Ms.take i).map (setOf ns)) ⟨⟨_,rfl⟩,Same.new hD,[],A9,⟨fun t h=>absurd h List.not_mem_nil,List.nodup_nil,fun t h=>absurd h List.not_mem_nil⟩,fun t h=>absurd h List.not_mem_nil,rfl⟩ (fun i σ G _ h=>h.2.1.at l) ?_ ?_
 ·rintro i σ G y N hx ⟨⟨v0,rfl⟩,sG,ts,eG,LG,nG,mG⟩ hN
  rw[List.getElem?_map]at hx
  obtain⟨m,hm,rfl⟩:=Option.map_eq_some_iff.mp hx
  have li:=(List.getElem?_eq_some_iff.mp hm).1
  have lt:ts.length=i:=by
   have:=congrArg List.length mG
   rw[List.length_map,List.length_map,List.length_take]at this
   omega
  refine Ho (step m G _ sG fun z G' hz s' ez=>?_)
  have nz:z≠D:=(B0 eG hz).symm
  refine⟨_,s' _ _ eG,by rw[List.length_map,sizeLine_eq];omega,hN _ _ ⟨⟨_,rfl⟩,(sG.trans s').upd hD,ts ++ [(z,setOf ns m)],?_,⟨fun t ht=>?_,?_,fun t ht=>?_⟩,fun t ht=>?_,?_⟩⟩
  ·rw[A9,List.map_append];rfl
  ·rcases List.mem_append.mp ht with h | h
   ·rw[B5 (nG t h)];exact s' _ _ (LG.at_ t h)
   ·rw[List.mem_singleton.mp h,B5 nz];exact ez
  ·rw[List.map_append]
   refine List.nodup_append.mpr ⟨LG.nd,List.pairwise_singleton _ _,fun a ha b hb e=>?_⟩
   obtain⟨t,ht,rfl⟩:=List.mem_map.mp ha
   rw[List.map_singleton,List.mem_singleton]at hb
   rw[hb]at e
   have:=LG.at_ t ht
   rw[e,hz]at this
   cases this
  ·rcases List.mem_append.mp ht with h | h
   ·exact LG.new t h
   ·rw[List.mem_singleton.mp h];exact sG.free hz
  ·rcases List.mem_append.mp ht with h | h
   ·exact nG t h
   ·rw[List.mem_singleton.mp h];exact nz
  ·rw[List.map_append,mG,take_succ hm,List.map_append];rfl
 ·rintro σ G ⟨_,sG,ts,eG,LG,nG,mG⟩
  rw[List.length_map,List.take_length]at mG
  exact q σ G ts sG eG LG nG mG
section
variable{P:Program}{w:World}{K:PySem.W.Frag}{mg:Str->Option Value}{base:Heap}
noncomputable def MaxM(Tg:Tgt):Tgt:=fun n A B m=>Tg n A B m/\∀m',Tg n A B m'->Sub m m'->m'=m
theorem Nv{a b:Nat}(h:Sub a b)(h':Sub b a):a=b:=Nat.eq_of_testBit_eq fun j=>Bool.eq_iff_iff.mpr ⟨h j,h' j⟩
theorem MaxM.anti{Tg:Tgt}{n:Nat}{A B:List Nat}{a b:Nat}(ha:MaxM Tg n A B a)(hb:MaxM Tg n A B b)(s:Sub a b):a=b:=(ha.2 b hb.1 s).symm
noncomputable def Dj(CW f:Addr)(Tg:Tgt):Sp:=fun vs H Q _=>∃(wb:Addr) (ns:List Str) (qs:List PA2),vs = [.ref wb,.ref f,.bl true]/\WebAt CW H wb ns qs/\ns.length<=10 /\
 ∀(A B Ms:List Nat),MB ns ((qs.map fun q=>q.2).map fun k=>(k.2,k.1)) A->MB ns (qs.map fun q=>q.2) B->Ms.Nodup->(∀m,m∈Ms↔MaxM Tg ns.length A B m) ->
  ∀r (ts:List (Addr×List Str)) H',Same H H'->H r=none->H' r=some (.lst (ts.map fun t=>V.ref t.1))->LLn H H' ts->(∀t∈ts,t.1≠r)->(ts.map fun t=>t.2).Perm (Ms.map (setOf ns))->ts.Pairwise (fun a b=>TS.lexB (TS.kyS b.2) (TS.kyS a.2)=false)->Q (.ref r) H'
theorem X5:FnScope ["web", "settle", "greatest", "marks", "found"] ["web", "settle", "greatest"] (B4 s_all_found):=⟨rfl,rfl,rfl,by decide +kernel,rfl,by decide +kernel,by decide +kernel⟩
set_option maxHeartbeats 4000000 in
theorem Dq(T:Tx K mg){f:Addr}{Tg:Tgt}(tl:∀n A B m,Tg n A B m->Low n m)(tq:∀n A B m,Tg n A B m->QuietB B m){g:Nat}(hg:3<=g)(G_gather:FnOk P w K mg base (CXe P w) (g+1) T.gather.f T.gather.fd ["marks", "settle", "greatest", "chosen", "barred", "found"] (S0 T.CMarks f Tg 10)) :
  FnOk P w K mg base (CXe P w) (g+2) T.all_found.f T.all_found.fd ["web", "settle", "greatest"] (Dj T.CWeb f Tg):=by
 have G_Marks___init__:FnOk P w K mg base CX0 g T.fMarks___init__ T.fdMarks___init__ ["self", "web"] (U8 T.CMarks T.CWeb):=(As T).mono hg
 have G_Marks_names_in:FnOk P w K mg base CX0 (g+1) T.mMarks_names_in.f T.mMarks_names_in.fd ["self", "some"] (m9 T.CMarks):=(W2 T).mono (by omega)
 have sc:=X5
 refine T.all_found.F.okE X5 (fun vs H Q E h=>?_) (fun cdv A outer s H vs Q E hr h=>?_)
 ·obtain⟨wb,ns,qs,rfl,_⟩:=h
  rfl
 ·obtain⟨wb,ns,qs,rfl,hW,ln,q⟩:=h
  refine⟨_,(B2 (C6 (i:=3) sc.nd rfl (by first | exact Or.inl rfl | exact Or.inr rfl) (Lw T.mkMarks G_Marks___init__ (hr.mono (Nat.le_refl _)) rfl T.mgMarks T.bMarks___init__ .nil K5 (A8 (pv 0) B1)))
   (B2 (C6 (i:=4) sc.nd rfl (by first | exact Or.inl rfl | exact Or.inr rfl) (M0 B1))
   (B2 (D8 (Hi cxE.bx T.gather G_gather (hr.mono (Nat.le_refl _)) (@A8 _ _ _ _ _ (pv 3) (@A8 _ _ _ _ _ (pv 1) (@A8 _ _ _ _ _ (pv 2) (@A8 _ _ _ _ _ B6 (@A8 _ _ _ _ _ (peF K (pv 3)) (@A8 _ _ _ _ _ (pv 4) B1 (by rfl)) (by rfl)) (by rfl)) (by rfl)) (by rfl)) (by rfl))))
   (B3 (C1 (E2 (Ht K hr.units) T.b_sorted J6 (A8 (Q5 (N':=["some", "marks"]) (cap:=[none,some 3]) (cl:=[("marks",_)]) (K0 ⟨⟨rfl,rfl,rfl,rfl⟩,trivial⟩ ⟨rfl,trivial⟩) rfl (piL K (pv 4)) (fun _ _ _ _=>by exact⟨(pgC 0),E5,(E9 (pv 1) T.clMarks T.mMarks_names_in.m G_Marks_names_in (hr.mono (Nat.le_refl _)) T.mMarks_names_in.b .nil K5 (A8 (pv 0) B1))⟩)) B1))))))),?_⟩
  refine B8 fun N1 hN1=>?_
  refine ex1 rfl ?_
  intro x dx nx ndx nex
  have s0:Same H (upd (upd H dx (.own x)) x (.ins T.CMarks dx [])):=fun b o e=>by
   rw[B5 (B0 e nx),B5 (B0 e ndx)]
   exact e
  refine⟨x,dx,wb,ns,qs,rfl,A9,hW.same s0,fun c A B L H1 hc k1 M1 mA mB=>⟨rfl,?_⟩⟩
  have s1:Same H H1:=fun b o e=>k1 b o (s0 b o e) (by simpa using B0 e nx)
  have hcn:H c=none:=s0.free hc
  refine hN1 _ _ (B8 fun N2 hN2=>?_)
  refine⟨Nat.zero_le _,fun l hl=>?_⟩
  have ul:=Same.new (o:=.lst []) hl
  have fl:(upd H1 l (.lst [])) l=some (.lst (([]:List Nat).map E1)):=A9
  have hln:H l=none:=s1.free hl
  have R2:MarksAt T.CMarks (er (upd H1 l (.lst [])) l) x c ns A B L:=M1.same fun b o e=>by
   have:b≠l:=B0 e hl
   rw[Nz this,B5 this]
   exact e
  generalize upd H1 l (.lst [])=H2 at ul fl R2⊢
  have s2:=s1.trans ul
  have M2:=R2.same (At H2 l)
  obtain⟨Ms,ndM,mM⟩:=Sq (n:=ns.length) (fun m=>MaxM Tg ns.length A B m) fun m h=>tl _ _ _ _ h.1
  have q1:=q A B Ms mA mB ndM mM
  have fitz:∀m,Tg ns.length A B m/\Fits 0 L m↔Tg ns.length A B m:=fun m=>⟨(·.1),fun h=>⟨h,fun j z=>(by rw[Nat.zero_testBit]at z;cases z),fun j z y=>tq _ _ _ _ h j j z z ((M2.net.tr j j).mp ((M2.loops j).mp y))⟩⟩
  refine hN2 _ _ (B8 fun N3 hN3=>?_)
  obtain⟨dx',a,b,d,kb,e1,_⟩:=M2.ex
  refine ex1 rfl (ex1 rfl (ex1 rfl (ex1 rfl ⟨x,T.CMarks,dx',_,ex1 rfl ⟨e1,T.clMarks,T.nMarks_loops,rfl,ex1 rfl ⟨x,c,l,ns,A,B,L,0,L,[],rfl,R2,ln,Low.zero _,fun j hj=>(M2.net.lt j j ((M2.net.tr j j).mp ((M2.loops j).mp hj))).1,Nat.le_trans List.countP_le_length (by rw[List.length_range];exact ln),fl,List.Pairwise.nil,(fun g z=>absurd z List.not_mem_nil),(fun g z=>absurd z List.not_mem_nil),fun Ls H3 k3 R3 el3 an3 mL cv=>?_⟩⟩⟩)))
  ·rw[List.nil_append]at el3 an3
   have pm:Ls.Perm Ms:=(List.perm_ext_iff_of_nodup an3.nodup ndM).mpr fun m=>by
    rw[mM]
    have cov:∀m,Tg ns.length A B m->∃g∈Ls,Sub m g:=fun m h=>by
     obtain⟨g,hg,sg⟩:=cv m h ((fitz m).mpr h).2
     exact⟨g,by rw[List.nil_append]at hg;exact hg,sg⟩
    constructor
    ·intro h
     refine⟨(mL m h).1,fun m' t' s'=>?_⟩
     obtain⟨g,hg,sg⟩:=cov m' t'
     have e:m=g:=by
      obtain⟨i,hi,ei⟩:=List.getElem_of_mem h
      obtain⟨j,hj,ej⟩:=List.getElem_of_mem hg
      have pw:=List.pairwise_iff_getElem.mp an3
      have smg:Sub m g:=fun j z=>sg j (s' j z)
      rcases Nat.lt_trichotomy i j with z | z | z
      ·have:=(pw i j hi hj z).1
       rw[ei,ej]at this
       exact absurd smg this
      ·subst z;rw[<-ei,<-ej]
      ·have:=(pw j i hj hi z).2
       rw[ei,ej]at this
       exact absurd smg this
     subst e
     exact Nv sg s'
    ·rintro⟨h1,h2⟩
     obtain⟨g,hg,sg⟩:=cov m h1
     rw[<-h2 g (mL g hg).1 sg]
     exact hg
   have le3:Ls.length<=300:=an3.few ln fun m hm=>tl _ _ _ _ (mL m hm).1
   have M3:=R3.same (At H3 l)
   have s3:Same H H3:=fun b o e=>k3 b o (s2 b o e) (by
    intro z
    rcases List.mem_cons.mp z with rfl | z
    ·rw[hcn]at e;cases e
    ·rw[List.mem_singleton.mp z,hln]at e;cases e)
   refine hN3 _ _ ?_
   refine ex1 rfl ⟨l,rfl,⟨_,SqL.of el3⟩,fun D hD=>?_⟩
   refine Ga (ns:=ns) (asL (SqL.of el3)) (by omega) hD (fun m G R sG hR=>?_) fun σ' G ts sG eG LG nG mG=>?_
   ·have MG:=M3.same sG
    obtain⟨dx',a,b,d,kb,e1,_⟩:=MG.ex
    exact ex1 rfl ⟨x,dx',ex1 rfl ⟨e1,rfl,ex1 rfl ⟨x,c,ns,A,B,L,m,rfl,MG,fun z G' hz s' ez=>hR z G' hz s' ez⟩⟩⟩
   ·refine⟨D,ts,rfl,SqL.of eG,LG.at_,fun r ts' hr0 pt srt=>?_⟩
    have ur:=Same.new (o:=.lst (ts'.map fun t=>V.ref t.1)) hr0
    have hrn:H r=none:=(s3.trans sG).free hr0
    refine q1 r ts' _ ((s3.trans sG).trans ur) hrn A9 ⟨fun t ht=>ur _ _ (LG.at_ t (pt.mem_iff.mp ht)),(pt.map _).nodup_iff.mpr LG.nd,fun t ht=>s3.free (LG.new t (pt.mem_iff.mp ht))⟩ (fun t ht=>B0 (LG.at_ t (pt.mem_iff.mp ht)) hr0) ?_ srt
    refine(pt.map fun t=>t.2).trans ?_
    rw[mG]
    exact pm.map _
noncomputable def Z0(CW:Addr)(Tg:Tgt):Sp:=fun vs H Q _=>∃(wb:Addr) (ns:List Str) (qs:List PA2),vs = [.ref wb]/\WebAt CW H wb ns qs/\ns.length<=10 /\
 ∀(A B Ms:List Nat),MB ns ((qs.map fun q=>q.2).map fun k=>(k.2,k.1)) A->MB ns (qs.map fun q=>q.2) B->Ms.Nodup->(∀m,m∈Ms↔MaxM Tg ns.length A B m) ->
  ∀r (ts:List (Addr×List Str)) H',Same H H'->H r=none->H' r=some (.lst (ts.map fun t=>V.ref t.1))->LLn H H' ts->(∀t∈ts,t.1≠r)->(ts.map fun t=>t.2).Perm (Ms.map (setOf ns))->ts.Pairwise (fun a b=>TS.lexB (TS.kyS b.2) (TS.kyS a.2)=false)->Q (.ref r) H'
theorem P1:FnScope ["web"] ["web"] (B4 s_greatest_sets):=⟨rfl,rfl,rfl,by decide +kernel,rfl,by decide +kernel,by decide +kernel⟩
theorem Y2(T:Tx K mg):FnOk P w K mg base (CXe P w) 18 T.greatest_sets.f T.greatest_sets.fd ["web"] (Z0 T.CWeb WholeM):=by
 have G_all_found:FnOk P w K mg base (CXe P w) 17 T.all_found.f T.all_found.fd ["web", "settle", "greatest"] (Dj T.CWeb T.settle_whole.f WholeM) :=
  Dq T (fun _ _ _ _ h=>h.1.1) (fun _ _ _ _ h=>h.1.2.1) (g:=15) (by decide) (w8 T (fun _ _ _ _ h=>h.1.1) (Z8 T) T.settle_whole.F.kp T.settle_whole.b (by decide) 10)
 have sc:=P1
 refine T.greatest_sets.F.okE P1 (fun vs H Q E h=>?_) (fun cdv A outer s H vs Q E hr h=>?_)
 ·obtain⟨wb,ns,qs,rfl,_⟩:=h
  rfl
 ·obtain⟨wb,ns,qs,rfl,hW,ln,q⟩:=h
  refine⟨_,(B3 (C1 (Hi cxE.bx T.all_found G_all_found (hr.mono (by decide)) (A8 (pv 0) (A8 (Xl T.settle_whole.m) (A8 w5 B1)))))),?_⟩
  exact ex1 rfl ⟨wb,ns,qs,rfl,hW,ln,q⟩
theorem l8:FnScope ["_law_web_here", "_law_told_here"] ["_law_web_here"] (B4 s_law_told):=⟨rfl,rfl,rfl,by decide +kernel,rfl,by decide +kernel,by decide +kernel⟩
theorem Fc(T:Tx K mg):FnOk P w K mg base CX0 19 T.law_told.f T.law_told.fd ["_law_web_here"] (Z0 T.CWeb WholeM):=by
 have G_greatest_sets:FnOk P w K mg base (CXe P w) 18 T.greatest_sets.f T.greatest_sets.fd ["web"] (Z0 T.CWeb WholeM):=Y2 T
 have sc:=l8
 refine T.law_told.F.ok l8 (fun vs H Q E h=>?_) (fun cdv A outer s H vs Q E hr h=>?_)
 ·obtain⟨wb,ns,qs,rfl,_⟩:=h
  rfl
 ·obtain⟨wb,ns,qs,rfl,hW,ln,q⟩:=h
  refine⟨_,(B2 (C6 (i:=1) sc.nd rfl (by first | exact Or.inl rfl | exact Or.inr rfl) Tj)
   (B2 (Sl (fun _ _ z=>z) rfl rfl rfl T.mgTooMany T.xcTooMany (Rl (i:=1) sc.nd rfl (by first | exact Or.inl rfl | exact Or.inr rfl) (Ph (fun _ _ z=>z) G_greatest_sets (hr.mono (by decide)) rfl T.greatest_sets.m T.greatest_sets.F.kp T.greatest_sets.b (A8 (pv 0) B1)))
   (fun _=>(B3 (C6 (i:=1) sc.nd rfl (by first | exact Or.inl rfl | exact Or.inr rfl) z7))))
   (B3 (C1 (pv 1))))),?_⟩
  refine B8 fun N1 hN1=>?_
  refine hN1 _ _ (B8 fun N2 hN2=>?_)
  exact ex1 rfl ⟨wb,ns,qs,rfl,hW,ln,fun A B Ms mA mB nd mm r ts H' s hr er' LL nr pm srt=>hN2 _ _ (ex1 rfl (q A B Ms mA mB nd mm r ts H' s hr er' LL nr pm srt))⟩
theorem w6:FnScope ["_law_left_here", "_law_names_here"] ["_law_left_here"] (B4 s_law_web):=⟨rfl,rfl,rfl,by decide +kernel,rfl,by decide +kernel,by decide +kernel⟩
noncomputable def Qn:Sp:=fun vs H Q _=>∃p:Addr,vs = [.ref p]/\LeftAt H p 0 /\
 ∀t n a (ss:List Str) (ps:List PA2) H',Sm [p] H H'->H' t=some (.tup [.ref n,.ref a])->H' n=some (.lst (ss.map V.str))->T2 ss->ss.length<=10->H' a=some (.lst (J8 ps))->(∀q∈ps,E4 H' q)->StrkOk ss ps->Q (.ref t) H'
theorem Ii(T:Tx K mg):FnOk P w K mg base CX0 4 T.law_web.f T.law_web.fd ["_law_left_here"] Qn:=by
 have G_law_names:FnOk P w K mg base CX0 3 T.law_names.f T.law_names.fd ["_law_left_here", "_law_many"] Gw:=Dx T
 have G_law_size:FnOk P w K mg base CX0 3 T.law_size.f T.law_size.fd ["_law_left_here"] Ld:=Eo T
 have G_law_strikes:FnOk P w K mg base CX0 3 T.law_strikes.f T.law_strikes.fd ["_law_left_here", "_law_names_here"] (z4 K):=u6 T
 have sc:=w6
 refine T.law_web.F.ok w6 (fun vs H Q E h=>?_) (fun cdv A outer s H vs Q E hr h=>?_)
 ·obtain⟨p,rfl,_⟩:=h
  rfl
 ·obtain⟨p,rfl,L1,q⟩:=h
  refine⟨_,(B2 (C6 (i:=1) sc.nd rfl (by first | exact Or.inl rfl | exact Or.inr rfl) (D9 T.law_names G_law_names (hr.mono (by decide)) (A8 (pv 0) (A8 (D9 T.law_size G_law_size (hr.mono (by decide)) (A8 (pv 0) B1)) B1))))
   (B3 (C1 (U0 (A8 (pv 1) (A8 (D9 T.law_strikes G_law_strikes (hr.mono (by decide)) (A8 (pv 0) (A8 (pv 1) B1))) B1)))))),?_⟩
  refine B8 fun N1 hN1=>?_
  refine ex1 rfl (ex1 rfl ⟨p,0,rfl,L1,by decide,fun sz H2 hsz k2 L2=>?_⟩)
  refine⟨p,_,sz,rfl,L2,by omega,by omega,fun n ss H3 hn k3 e3 l3 N3 L3=>?_⟩
  refine hN1 _ _ ?_
  refine ex1 rfl (ex1 rfl (ex1 rfl ⟨p,n,_,ss,rfl,L3,by omega,e3,N3,by omega,fun a ps c4 H4 ha k4 e4 pin4 O4 hc4 L4=>⟨by show 2<=sizeLine;decide,fun t ht=>?_⟩⟩))
  have ut:=Same.new (o:=.tup [.ref n,.ref a]) ht
  exact q t n a ss ps _ ((k2.trans k3).trans (k4.trans ut.sm)) A9 (ut _ _ (Sm1 k4 e3 (L3.ne e3))) N3 (by omega) (ut _ _ e4) (C7 ut pin4) O4
theorem u3:FnScope ["_law_view", "_law_masks_here"] ["_law_view", "_law_masks_here"] (B4 s_law_sets):=⟨rfl,rfl,rfl,by decide +kernel,rfl,by decide +kernel,by decide +kernel⟩
noncomputable def Hn:Sp:=fun vs H Q _=>∃(p v l:Addr) (ns:List Str) (ks:List (Str×Str)) (A B Ms:List Nat),vs = [.ref v,.ref l]/\ViewAt H p v ns ks A B/\ns.length<=100/\H l=some (.lst (Ms.map E1))/\Ms.length<=5000 /\
 ∀r (ts:List (Addr×List Str)) H',Same H H'->H r=none->H' r=some (.lst (ts.map fun t=>V.ref t.1))->LLn H H' ts->(∀t∈ts,t.1≠r)->(ts.map fun t=>t.2).Perm (Ms.map (setOf ns))->ts.Pairwise (fun a b=>TS.lexB (TS.kyS b.2) (TS.kyS a.2)=false)->Q (.ref r) H'
theorem Fa(T:Tx K mg):FnOk P w K mg base CX0 2 T.law_sets.f T.law_sets.fd ["_law_view", "_law_masks_here"] Hn:=by
 have G_law_set_of:FnOk P w K mg base CX0 1 T.law_set_of.f T.law_set_of.fd ["_law_view", "_law_mask"] Dr:=Bs T
 have sc:=u3
 refine T.law_sets.F.ok u3 (fun vs H Q E h=>?_) (fun cdv A outer s H vs Q E hr h=>?_)
 ·obtain⟨p,v,l,ns,ks,A,B,Ms,rfl,_⟩:=h
  rfl
 ·obtain⟨p,v,l,ns,ks,A,B,Ms,rfl,hV,ln,el,lM,q⟩:=h
  refine⟨_,(B3 (C1 (E2 (Ht K hr.units) T.b_sorted J6 (A8 (Q5 (N':=["_law_mask", "_law_view"]) (cap:=[none,some 0]) (cl:=[("_law_view",_)]) (K0 ⟨⟨rfl,rfl,rfl,rfl⟩,trivial⟩ ⟨rfl,trivial⟩) rfl (piL K (pv 1)) (fun _ _ _ _=>by exact⟨(pgC 0),E5,(D9 T.law_set_of G_law_set_of (hr.mono (by decide)) (A8 (pv 1) (A8 (pv 0) B1)))⟩)) B1)))),?_⟩
  refine ex1 rfl ⟨l,rfl,⟨_,SqL.of el⟩,fun D hD=>?_⟩
  refine Ga (ns:=ns) (asL (SqL.of el)) lM hD (fun m G R sG hR=>?_) fun σ' G ts sG eG LG nG mG=>?_
  ·exact ex1 rfl (ex1 rfl ⟨p,v,m,ns,ks,A,B,rfl,hV.same sG,ln,fun z G' hz s' ez=>hR z G' hz s' ez⟩)
  ·refine⟨D,ts,rfl,SqL.of eG,LG.at_,fun r ts' hr0 pt srt=>?_⟩
   have ur:=Same.new (o:=.lst (ts'.map fun t=>V.ref t.1)) hr0
   refine q r ts' _ (sG.trans ur) (sG.free hr0) A9 ⟨fun t ht=>ur _ _ (LG.at_ t (pt.mem_iff.mp ht)),(pt.map _).nodup_iff.mpr LG.nd,fun t ht=>LG.new t (pt.mem_iff.mp ht)⟩ (fun t ht=>B0 (LG.at_ t (pt.mem_iff.mp ht)) hr0) ?_ srt
   refine(pt.map fun t=>t.2).trans ?_
   rw[mG]
theorem Q0:FnScope ["_law_found"] ["_law_found"] (B4 s_law_are_sets):=⟨rfl,rfl,rfl,by decide +kernel,rfl,by decide +kernel,by decide +kernel⟩
noncomputable def q0:Sp:=fun vs H Q _=>∃(r:Addr) (ts:List (Addr×List Str)),vs = [.ref r]/\H r=some (.lst (ts.map fun t=>V.ref t.1))/\(∀t∈ts,H t.1=some (.lst (t.2.map V.str))/\t.2.length<=1000)/\ts.length<=1000/\∀H',Same H H'->Q (.bl true) H'
theorem h8(T:Tx K mg):FnOk P w K mg base CX0 1 T.law_are_sets.f T.law_are_sets.fd ["_law_found"] q0:=by
 have sc:=Q0
 refine T.law_are_sets.F.ok Q0 (fun vs H Q E h=>?_) (fun cdv A outer s H vs Q E hr h=>?_)
 ·obtain⟨r,ts,rfl,_⟩:=h
  rfl
 ·obtain⟨r,ts,rfl,er',ht,lt,q⟩:=h
  refine⟨_,(B2 (J7 (PW.pt (Eu (S8 (K7 (E2 (g9 K) T.b_isinstance F0 (A8 (pv 0) (A8 (Jr T.b_list T8) B1))))) (t6 (S8 (K7 (E2 (Fw K) T.b_all Gm (A8 (Q5 (N':=["_law_some"]) (cap:=[none]) (cl:=[]) (K0 trivial trivial) rfl (piL K (pv 0)) (fun _ _ _ _=>by exact⟨(pgC 0),E5,(E2 (g9 K) T.b_isinstance F0 (A8 (pv 0) (A8 (Jr T.b_list T8) B1)))⟩)) B1))))))) (B3 (C1 w5)) D0)
   (B3 (C1 (E2 (Fw K) T.b_all Gm (A8 (Q5 (N':=["_law_some"]) (cap:=[none]) (cl:=[]) (K0 trivial trivial) rfl (piL K (pv 0)) (fun _ _ _ _=>by exact⟨(pgC 0),E5,(E2 (Fw K) T.b_all Gm (A8 (Q5 (N':=["_law_name"]) (cap:=[none]) (cl:=[]) (K0 trivial trivial) rfl (piL K (pv 0)) (fun _ _ _ _=>by exact⟨(pgC 0),E5,(E2 (g9 K) T.b_isinstance F0 (A8 (pv 0) (A8 (Jr T.b_str Qs) B1)))⟩)) B1))⟩)) B1))))),?_⟩
  have allT:∀{α:Type} (l:List α),(l.map fun _=>true).all id=true:=fun l=>List.all_eq_true.mpr fun b hb=>by
   obtain⟨_,_,rfl⟩:=List.mem_map.mp hb
   rfl
  refine B8 fun N1 hN1=>?_
  refine ex1 rfl ⟨.ref r, "list",_,true,rfl,.lst er',rfl,⟨_,rfl,Az ?_⟩⟩
  refine ex1 rfl ⟨r,rfl,⟨_,SqL.of er'⟩,fun D hD=>?_⟩
  refine u4 (fun _=>V.bl true) (asL (SqL.of er')) (fun _=>true) (by omega) hD (fun t _ G sG M hM=>hM G fun b o e=>e) (fun t mt G sG M hM=>ex1 rfl ⟨_, "list",_,true,rfl,.lst (sG _ _ (ht t mt).1),rfl,hM⟩) fun σ' G sG eG=>?_
  rw[List.filter_eq_self.mpr fun _ _=>rfl]at eG
  have eG:G D=some (.lst ((ts.map fun _=>true).map V.bl)):=by rw[eG,List.map_map];rfl
  refine⟨D,_,rfl,SqL.of eG,?_⟩
  rw[allT]
  refine⟨_,rfl,Az ?_⟩
  refine hN1 _ _ ?_
  have er2:=sG _ _ er'
  refine ex1 rfl ⟨r,rfl,⟨_,SqL.of er2⟩,fun D2 hD2=>?_⟩
  refine Uy (fun _=>V.bl true) (asL (SqL.of er2)) (fun _=>true) (by omega) hD2 (fun t _ G2 s2 M hM=>hM G2 fun b o e=>e) (fun t mt G2 s2 M hM=>?_) fun σ' G2 s2 e2=>?_
  ·have et:=s2 _ _ (sG _ _ (ht t mt).1)
   have lt:=(ht t mt).2
   refine ex1 rfl ⟨t.1,rfl,⟨_,SqL.of et⟩,fun D3 hD3=>?_⟩
   refine u4 (fun _=>V.bl true) (asL (SqL.of et)) (fun _=>true) (by omega) hD3 (fun y _ G3 s3 M hM=>hM G3 fun b o e=>e) (fun y _ G3 s3 M hM=>ex1 rfl ⟨_, "str",_,true,rfl,.str y,rfl,hM⟩) fun σ' G3 s3 e3=>?_
   rw[List.filter_eq_self.mpr fun _ _=>rfl]at e3
   have e3:G3 D3=some (.lst ((t.2.map fun _=>true).map V.bl)):=by rw[e3,List.map_map];rfl
   refine⟨D3,_,rfl,SqL.of e3,?_⟩
   rw[allT]
   exact hM G3 s3
  ·rw[List.filter_eq_self.mpr fun _ _=>rfl]at e2
   have e2:G2 D2=some (.lst ((ts.map fun _=>true).map V.bl)):=by rw[e2,List.map_map];rfl
   refine⟨D2,_,rfl,SqL.of e2,?_⟩
   rw[allT]
   exact q G2 (sG.trans s2)
theorem P4:FnScope ["_law_masks_here"] ["_law_masks_here"] (B4 s_law_greatest):=⟨rfl,rfl,rfl,by decide +kernel,rfl,by decide +kernel,by decide +kernel⟩
noncomputable def f7:Sp:=fun vs H Q _=>∃(l:Addr) (Ws:List Nat),vs = [.ref l]/\H l=some (.lst (Ws.map E1))/\Ws.length<=5000/\∀D H',H D=none->Same H H'->H' D=some (.lst ((Ws.filter fun m=>pB (∀o∈Ws,Sub m o->o=m)).map E1))->Q (.ref D) H'
theorem o0(T:Tx K mg):FnOk P w K mg base CX0 1 T.law_greatest.f T.law_greatest.fd ["_law_masks_here"] f7:=by
 have sc:=P4
 refine T.law_greatest.F.ok P4 (fun vs H Q E h=>?_) (fun cdv A outer s H vs Q E hr h=>?_)
 ·obtain⟨l,Ws,rfl,_⟩:=h
  rfl
 ·obtain⟨l,Ws,rfl,el,lw,q⟩:=h
  refine⟨_,(B3 (C1 (Tv (N':=["_law_one", "_law_masks_here"]) (cap:=[none,some 0]) (cl:=[("_law_masks_here",_)]) (Wp (fun _=>⟨⟨rfl,rfl,rfl,rfl⟩,trivial⟩) ⟨rfl,trivial⟩) rfl (piL K (pv 0)) (fun _ _ _ _=>by exact⟨(pgD 0),(T0 (S8 (K7 (E2 (Qp K) T.b_any Qm (A8 (Q5 (N':=["_law_other", "_law_one"]) (cap:=[none,some 0]) (cl:=[("_law_one",_)]) (K0 ⟨⟨rfl,rfl,rfl,rfl⟩,trivial⟩ ⟨rfl,trivial⟩) rfl (piL K (pv 1)) (fun _ _ _ _=>by exact⟨(pgC 0),E5,(Ke (O3 Qx (pv 1) (pv 0) (E3 _)) (Ks (O3 U1 (C2 M9 (pv 1) (Oo Kp (pv 0))) B6 (E3 _))))⟩)) B1))))),(pv 0)⟩)))),?_⟩
  refine ex1 rfl ⟨l,rfl,⟨_,SqL.of el⟩,fun D hD=>?_⟩
  refine u4 E1 (asL (SqL.of el)) (fun m=>pB (∀o∈Ws,Sub m o->o=m)) lw hD (fun m hm G sG M hM=>?_) (fun m hm G sG M hM=>ex1 rfl hM) fun σ' G sG eG=>q D G hD sG eG
  have el2:=sG _ _ el
  refine ex1 rfl ⟨l,rfl,⟨_,SqL.of el2⟩,fun E hE=>?_⟩
  refine u4 (fun o=>V.bl (pB (m≠o/\Sub m o))) (asL (SqL.of el2)) (fun _=>true) lw hE (fun o _ G2 s2 M hM=>hM G2 fun b o e=>e) (fun o ho G2 s2 M2 hM2=>?_) fun σ' G2 s2 e2=>?_
  ·refine ex1 rfl (ex1 rfl ⟨rfl,_,rfl,V8 (fun ne=>?_) (fun ne=>?_)⟩)
   ·have ne:m≠o:=fun z=>by rw[z]at ne;simp at ne
    refine ex1 rfl (ex1 rfl ⟨_,rfl,B7 rfl rfl ⟨rfl,?_⟩⟩)
    rw[<-Fr (show decide (V.int (Builtin.bitAnd (m:Int) (Builtin.bitNot (o:Int)))=V.int 0)=true↔(m≠o/\Sub m o)from(P3 m o).trans ⟨fun h=>⟨ne,h⟩,(·.2)⟩)]at hM2
    exact hM2
   ·have eo:m=o:=Classical.byContradiction fun z=>ne (by
     have:E1 m≠E1 o:=fun y=>z (by have:=V.int.inj y;omega)
     rw[decide_eq_false this];rfl)
    rw[<-Fr (show false=true↔(m≠o/\Sub m o)from⟨fun z=>(by cases z),fun h=>absurd eo h.1⟩)]at hM2
    exact hM2
  rw[List.filter_eq_self.mpr fun _ _=>rfl]at e2
  have e2:G2 E=some (.lst ((Ws.map fun o=>pB (m≠o/\Sub m o)).map V.bl)):=by rw[e2,List.map_map];rfl
  refine⟨E,_,rfl,SqL.of e2,_,rfl,?_⟩
  have e:(!(Ws.map fun o=>pB (m≠o/\Sub m o)).any id)=pB (∀o∈Ws,Sub m o->o=m):=Fr (by
   rw[Bool.not_eq_true',Bool.eq_false_iff,ne_eq,List.any_eq_true]
   constructor
   ·intro h o ho s
    refine Classical.byContradiction fun ne=>h ⟨_,List.mem_map.mpr ⟨o,ho,rfl⟩,pB_iff.mpr ⟨fun z=>ne z.symm,s⟩⟩
   ·rintro h ⟨_,hb,z⟩
    obtain⟨o,ho,rfl⟩:=List.mem_map.mp hb
    obtain⟨n1,s⟩:=pB_iff.mp z
    exact n1 (h o ho s).symm)
  dsimp only
  rw[e]
  exact hM G2 s2
theorem z8:FnScope ["_law_view", "_law_whole"] ["_law_view"] (B4 s_law_due):=⟨rfl,rfl,rfl,by decide +kernel,rfl,by decide +kernel,by decide +kernel⟩
noncomputable def Gb:Sp:=fun vs H Q _=>∃(p v:Addr) (ns:List Str) (ks:List (Str×Str)) (A B:List Nat),vs = [.ref v]/\ViewAt H p v ns ks A B/\ns.length<=10 /\
 ∀Ms:List Nat,Ms.Nodup->(∀m,m∈Ms↔MaxM WholeM ns.length A B m)->∀r (ts:List (Addr×List Str)) H',Same H H'->H r=none->H' r=some (.lst (ts.map fun t=>V.ref t.1))->LLn H H' ts->(ts.map fun t=>t.2).Perm (Ms.map (setOf ns))->ts.Pairwise (fun a b=>TS.lexB (TS.kyS b.2) (TS.kyS a.2)=false)->Q (.ref r) H'
theorem Is(T:Tx K mg):FnOk P w K mg base CX0 5 T.law_due.f T.law_due.fd ["_law_view"] Gb:=by
 have G_law_all_standing:FnOk P w K mg base CX0 4 T.law_all_standing.f T.law_all_standing.fd ["_law_view"] Q8:=T9 T
 have G_law_sets:FnOk P w K mg base CX0 2 T.law_sets.f T.law_sets.fd ["_law_view", "_law_masks_here"] Hn:=Fa T
 have G_law_kept:FnOk P w K mg base CX0 2 T.law_kept.f T.law_kept.fd ["_law_view", "_law_mask"] Fp:=r8 T
 have G_law_greatest:FnOk P w K mg base CX0 1 T.law_greatest.f T.law_greatest.fd ["_law_masks_here"] f7:=o0 T
 have sc:=z8
 refine T.law_due.F.ok z8 (fun vs H Q E h=>?_) (fun cdv A outer s H vs Q E hr h=>?_)
 ·obtain⟨p,v,ns,ks,A,B,rfl,_⟩:=h
  rfl
 ·obtain⟨p,v,ns,ks,A,B,rfl,hV,ln,q⟩:=h
  refine⟨_,(B2 (Pd (i:=1) (N':=["_law_mask", "_law_view"]) (cap:=[none,some 0]) (cl:=[("_law_view",_)]) sc.nd rfl (by first | exact Or.inl rfl | exact Or.inr rfl) (K0 ⟨⟨rfl,rfl,rfl,rfl⟩,trivial⟩ ⟨rfl,trivial⟩) rfl (piL K (D9 T.law_all_standing G_law_all_standing (hr.mono (by decide)) (A8 (pv 0) B1))) (fun _ _ _ _=>by exact⟨(pgC 0),(T0 (C8 U1 (pv 0) (D9 T.law_kept G_law_kept (hr.mono (by decide)) (A8 (pv 1) (A8 (pv 0) B1))) (E3 _))),(pv 0)⟩))
   (B3 (C1 (D9 T.law_sets G_law_sets (hr.mono (by decide)) (A8 (pv 0) (A8 (D9 T.law_greatest G_law_greatest (hr.mono (by decide)) (A8 (pv 1) B1)) B1)))))),?_⟩
  refine B8 fun N1 hN1=>?_
  refine ex1 rfl ⟨p,v,ns,ks,A,B,rfl,hV,ln,fun l0 Ms0 H0 hl0 s0 el0 nd0 mm0 lM0=>?_⟩
  refine⟨l0,rfl,⟨_,SqL.of el0⟩,fun D hD=>?_⟩
  refine u4 E1 (asL (SqL.of el0)) (fun m=>pB (∀j,m.testBit j=true↔O0 ns.length A B m j)) (by omega) hD (fun m hm G1 s1 M hM=>?_) (fun m hm G1 s1 M hM=>ex1 rfl hM) fun σ' G1 s1 e1=>?_
  ·refine ex1 rfl (ex1 rfl (ex1 rfl ⟨p,v,m,ns,ks,A,B,rfl,(hV.same s0).same s1,by omega,fun m' hm'=>⟨rfl,_,rfl,?_⟩⟩))
   rw[Fr (p:=∀j,m.testBit j=true↔O0 ns.length A B m j) (b:=decide (E1 m=V.int (m':Int)))]
   ·exact hM G1 fun b o e=>e
   ·rw[decide_eq_true_iff]
    constructor
    ·intro z j
     have e:m=m':=by have:=V.int.inj z;omega
     rw[<-hm' j,<-e]
    ·intro h
     have e:m=m':=Nat.eq_of_testBit_eq fun j=>Bool.eq_iff_iff.mpr ((h j).trans (hm' j).symm)
     rw[<-e];rfl
  have s1:=s0.trans s1
  have hl:=s0.free hD
  have nd:=nd0.sublist (List.filter_sublist (p:=fun m=>pB (∀j,m.testBit j=true↔O0 ns.length A B m j)))
  have mm:∀m,m∈Ms0.filter (fun m=>pB (∀j,m.testBit j=true↔O0 ns.length A B m j))↔WholeM ns.length A B m:=fun m=>by
   rw[List.mem_filter,mm0,pB_iff]
   exact⟨fun h=>⟨h.1,fun j y=>(h.2 j).mpr y⟩,fun h=>⟨h.1,fun j=>⟨fun y=>h.1.2.2 j y,h.2 j⟩⟩⟩
  have lM:=Nat.le_trans (List.length_filter_le (fun m=>pB (∀j,m.testBit j=true↔O0 ns.length A B m j)) Ms0) lM0
  generalize Ms0.filter (fun m=>pB (∀j,m.testBit j=true↔O0 ns.length A B m j))=Ms at e1 nd mm lM
  refine hN1 _ _ ?_
  refine ex1 rfl (ex1 rfl ⟨D,Ms,rfl,e1,by omega,fun D2 G2 hD2 s2 e2=>?_⟩)
  have s3:=s1.trans s2
  refine⟨p,v,D2,ns,ks,A,B,_,rfl,hV.same s3,by omega,e2,Nat.le_trans (List.length_filter_le ..) (by omega),fun r ts H' s hr er' LL nr pm srt=>?_⟩
  refine q _ (nd.sublist List.filter_sublist) (fun m=>?_) r ts H' (s3.trans s) (s3.free hr) er' ⟨LL.at_,LL.nd,fun t ht=>s3.free (LL.new t ht)⟩ pm srt
  rw[List.mem_filter,mm,pB_iff]
  exact⟨fun h=>⟨h.1,fun m' t' s'=>h.2 m' ((mm m').mpr t') s'⟩,fun h=>⟨h.1,fun o ho s'=>h.2 o ((mm o).mp ho) s'⟩⟩
end
theorem Kt:∀{a b:List Str},TS.kyS a=TS.kyS b->a=b
 | [],[],_=>rfl
 | [],_::_,h=>by cases h
 | _::_,[],h=>by cases h
 | x::a,y::b,h=>by
  obtain⟨h1,h2⟩:=List.cons.inj h
  rw[Go h1,Kt h2]
theorem Si{a b:List (List Str)}(h1:a.Pairwise fun x y=>TS.lexB (TS.kyS y) (TS.kyS x)=false)(h2:b.Pairwise fun x y=>TS.lexB (TS.kyS y) (TS.kyS x)=false)(h:a.Perm b):a=b :=
 List.Perm.eq_of_pairwise (fun x y _ _ h1 h2=>Kt (TS.lexB_total _ _ h2 h1)) h1 h2 h
theorem MB.one{ns:List Str}{ks:List (Str×Str)}{A A':List Nat}(h:MB ns ks A)(h':MB ns ks A')(i:Nat):A.getD i 0=A'.getD i 0:=Nat.eq_of_testBit_eq fun j=>Bool.eq_iff_iff.mpr ((h.bit i j).trans (h'.bit i j).symm)
theorem StandM.ext{n m:Nat}{A A' B B':List Nat}(ha:∀i,A.getD i 0=A'.getD i 0)(hb:∀i,B.getD i 0=B'.getD i 0):StandM n A B m↔StandM n A' B' m:=by
 unfold StandM QuietB O0 Ch
 simp only[ha,hb]
theorem WholeM.ext{n m:Nat}{A A' B B':List Nat}(ha:∀i,A.getD i 0=A'.getD i 0)(hb:∀i,B.getD i 0=B'.getD i 0):WholeM n A B m↔WholeM n A' B' m:=by
 unfold WholeM
 rw[StandM.ext ha hb]
 unfold O0 Ch
 simp only[ha,hb]
theorem MaxM.ext{n m:Nat}{A A' B B':List Nat}(ha:∀i,A.getD i 0=A'.getD i 0)(hb:∀i,B.getD i 0=B'.getD i 0):MaxM WholeM n A B m↔MaxM WholeM n A' B' m:=by
 unfold MaxM
 simp only[fun m=>WholeM.ext (n:=n) (m:=m) ha hb]
noncomputable def lld(ls:List (List Str)):PyData:=.list (ls.map sd)
theorem Qq{K:PySem.W.Frag}{H:Hp}{r:Addr}{ts:List (Addr×List Str)}(hr:H r=some (.lst (ts.map fun t=>V.ref t.1)))(ht:∀t∈ts,H t.1=some (.lst (t.2.map V.str))):Rp K H (lld (ts.map fun t=>t.2)) (.ref r):=by
 unfold lld
 simp only[Rp]
 refine⟨r,_,rfl,SqL.of hr,?_⟩
 clear hr
 induction ts with
 | nil=>simp[Rps]
 | cons t ts ih =>
  show Rps K H (sd t.2 ::(ts.map fun t=>t.2).map sd) (V.ref t.1::ts.map fun t=>V.ref t.1)
  simp only[Rps]
  exact⟨_,_,rfl,Et (SqL.of (ht t (List.mem_cons_self ..))),ih fun u hu=>ht u (List.mem_cons_of_mem _ hu)⟩
theorem Qb{ls:List (List Str)}(h:∀l∈ls,∀y∈l,K3 y=true):Pl (lld ls):=by
 have h1:∀ls:List (List Str),(∀l∈ls,∀y∈l,K3 y=true)->PyData.canLayAll0 (ls.map sd)=true/\PyData.depthAll (ls.map sd)<=10:=fun ls=>by
  induction ls with
  | nil=>exact fun _=>⟨rfl,by simp[PyData.depthAll]⟩
  | cons l ls ih =>
   intro h
   obtain⟨i1,i2⟩:=ih fun u hu=>h u (List.mem_cons_of_mem _ hu)
   have p:=Kj (h l (List.mem_cons_self ..))
   have d:(sd l).depth<=10:=by
    unfold sd
    rw[PyData.depth]
    have:=X1 l
    omega
   rw[List.map_cons,PyData.canLayAll0,PyData.depthAll,p.1,i1]
   exact⟨rfl,by omega⟩
 obtain⟨a,b⟩:=h1 ls h
 refine⟨by unfold lld;rw[PyData.canLay0];exact a,?_⟩
 unfold lld
 rw[PyData.depth]
 omega
theorem Sb:Pl (.str "many"):=⟨by rw[PyData.canLay0];decide +kernel,by rw[PyData.depth];decide⟩
section
variable{P:Program}{w:World}{K:PySem.W.Frag}{mg:Str->Option Value}{base:Heap}
theorem Pw:FnScope ["_law_script", "_law_k", "_law_names_here", "_law_strikes_here", "_law_web_here", "_law_due_here", "_law_turn", "_law_found", "_law_some"] ["_law_script"] (B4 s_law):=⟨rfl,rfl,rfl,by decide +kernel,rfl,by decide +kernel,by decide +kernel⟩
noncomputable def Gu(K:PySem.W.Frag):Sp:=fun vs H Q _=>∃(u:Addr) (xs:List Int),vs = [.ref u]/\SqL K H u (xs.map V.int)/\xs.length<=63/\∀H',Q (.bl true) H'
set_option maxHeartbeats 4000000 in
theorem Vy(T:Tx K mg){f:Addr}{fd:FuncData}(F:Fun K "law" "law" s_law f fd):FnOk P w K mg base CX0 20 f fd ["_law_script"] (Gu K):=by
 have G_law_left:FnOk P w K mg base CX0 1 T.law_left.f T.law_left.fd ["_law_script", "_law_k"] (Ma K):=Ex T
 have G_law_web:FnOk P w K mg base CX0 4 T.law_web.f T.law_web.fd ["_law_left_here"] Qn:=Ii T
 have G_law_masks:FnOk P w K mg base CX0 1 T.law_masks.f T.law_masks.fd ["_law_names_here", "_law_strikes_here"] Fv:=Da T
 have G_law_due:FnOk P w K mg base CX0 5 T.law_due.f T.law_due.fd ["_law_view"] Gb:=Is T
 have G_law_told:FnOk P w K mg base CX0 19 T.law_told.f T.law_told.fd ["_law_web_here"] (Z0 T.CWeb WholeM):=Fc T
 have G_law_are_sets:FnOk P w K mg base CX0 1 T.law_are_sets.f T.law_are_sets.fd ["_law_found"] q0:=h8 T
 have G_Web___init__:FnOk P w K mg base CX0 3 T.fWeb___init__ T.fdWeb___init__ ["self", "names", "strikes"] (p9 K T.CWeb):=Ff T
 have G_Web_all_names:FnOk P w K mg base CX0 1 T.mWeb_all_names.f T.mWeb_all_names.fd ["self"] (Q2 T.CWeb):=O7 T
 have G_Web_all_strikes:FnOk P w K mg base CX0 1 T.mWeb_all_strikes.f T.mWeb_all_strikes.fd ["self"] (S7 T.CWeb):=U2 T
 have sc:=Pw
 refine F.ok Pw (fun vs H Q E h=>?_) (fun cdv A outer s H vs Q E hr h=>?_)
 ·obtain⟨u,xs,rfl,_⟩:=h
  rfl
 ·obtain⟨u,xs,rfl,hS,hlen,q⟩:=h
  refine⟨_,(B2 (J9 PassesOwn.never rfl (Tf T.b_range (A8 (E2 (Mc rfl) T.b_max Ub (A8 B6 (A8 (E2 (Lk rfl) T.b_min Vj (A8 (E2 (Q6 K) T.b_len O8 (A8 (pv 0) B1)) (A8 B6 B1))) B1))) B1)) (C4 (i:=1) sc.nd rfl (by first | exact Or.inl rfl | exact Or.inr rfl))
   (B2 (Z9 (D9 T.law_web G_law_web (hr.mono (by decide)) (A8 (D9 T.law_left G_law_left (hr.mono (by decide)) (A8 (pv 0) (A8 (pv 1) B1))) B1)) (pgT K (n:=2) (D4 (C4 (i:=2) sc.nd rfl (by first | exact Or.inl rfl | exact Or.inr rfl)) (D4 (C4 (i:=3) sc.nd rfl (by first | exact Or.inl rfl | exact Or.inr rfl)) O1))))
   (B2 (C6 (i:=4) sc.nd rfl (by first | exact Or.inl rfl | exact Or.inr rfl) (Lw T.mkWeb G_Web___init__ (hr.mono (by decide)) rfl T.mgWeb T.bWeb___init__ .nil K5 (A8 (pv 2) (A8 (pv 3) B1))))
   (B2 (C6 (i:=5) sc.nd rfl (by first | exact Or.inl rfl | exact Or.inr rfl) (D9 T.law_due G_law_due (hr.mono (by decide)) (A8 (D9 T.law_masks G_law_masks (hr.mono (by decide)) (A8 (pv 2) (A8 (pv 3) B1))) B1)))
   (B2 (J9 PassesOwn.never rfl (Tf T.b_range (A8 B6 B1)) (C4 (i:=6) sc.nd rfl (by first | exact Or.inl rfl | exact Or.inr rfl))
   (B2 (C6 (i:=7) sc.nd rfl (by first | exact Or.inl rfl | exact Or.inr rfl) (D9 T.law_told G_law_told (hr.mono (by decide)) (A8 (pv 4) B1)))
   (B2 (J7 (C8 (Op K hr.units) (pv 7) (pv 5) (E3 _)) (B3 (C1 w5)) D0)
   (B3 (J7 (C8 (Op K hr.units) (pv 7) z7 (E3 _)) (B2 (J7 (S8 (K7 (D9 T.law_are_sets G_law_are_sets (hr.mono (by decide)) (A8 (pv 7) B1)))) (B3 (C1 w5)) D0)
   (B2 (J9 PassesOwn.never rfl (piL K (pv 7)) (C4 (i:=8) sc.nd rfl (by first | exact Or.inl rfl | exact Or.inr rfl))
   (B3 (D8 (Gs K PySem.F.plainAttrs_list PySem.F.slot_list_append PySem.F.type_list_append E8 (pv 8) (A8 z7 B1)))))
   (B3 (D8 (Gs K PySem.F.plainAttrs_list PySem.F.slot_list_append PySem.F.type_list_append E8 (pv 7) (A8 (M0 B1) B1)))))) D0)))))
   (B3 (J7 (PW.pt (Eu (C8 (Op K hr.units) (Bg (pv 4) T.clWeb T.mWeb_all_names.m G_Web_all_names (hr.mono (by decide)) T.mWeb_all_names.b .nil K5) (E2 (Bm K) T.b_sorted J6 (A8 (pv 2) B1)) (E3 _)) (t6 (C8 (Op K hr.units) (Bg (pv 4) T.clWeb T.mWeb_all_strikes.m G_Web_all_strikes (hr.mono (by decide)) T.mWeb_all_strikes.b .nil K5) (E2 (Gd K) T.b_sorted J6 (A8 (pv 3) B1)) (E3 _))))) (B3 (C1 w5)) D0)))))))
   (B3 (C1 w5))),?_⟩
  refine ex1 rfl (B7 (a:=u) rfl (.inl hS) ⟨_,ex1 rfl ⟨_,ex1 rfl (ex1 rfl ?_)⟩⟩)
  have hz:∀l:Int,∃z:Nat,(if(if(4:Int)<l then 4 else l)>1 then(if(4:Int)<l then 4 else l)else 1) =(z:Int)/\z<=10:=fun l=>by
   by_cases h1:(4:Int)<l
   ·rw[if_pos h1];exact⟨4,by decide,by decide⟩
   ·rw[if_neg h1]
    by_cases h2:l>1
    ·rw[if_pos h2];exact⟨l.toNat,by omega,by omega⟩
    ·rw[if_neg h2];exact⟨1,by decide,by decide⟩
  obtain⟨z,ez,hz⟩:=hz ((xs.map V.int).length:Int)
  rw[ez]
  refine⟨by omega,by omega,?_⟩
  rw[Int.toNat_natCast]
  refine J5 (fun i σ H1=>(∃v1 v2 v3 v4 v5 v6 v7 v8,σ = [some (.ref u),v1,v2,v3,v4,v5,v6,v7,v8])/\Same H H1) ?_ ?_ ?_
  ·exact⟨⟨_,_,_,_,_,_,_,_,rfl⟩,fun b o e=>e⟩
  ·rintro i σ H0 hi ⟨⟨v1,v2,v3,v4,v5,v6,v7,v8,rfl⟩,s0⟩ D1 hD1 _
   rw[Int.zero_add]
   refine Vk fun N1 hN1=>?_
   refine ex1 rfl (ex1 rfl ⟨u,xs,i,rfl,(s0.at u).seqL hS,by omega,fun p H1 hp s1 L1=>?_⟩)
   refine⟨p,rfl,L1,fun t n a ss ps H2 k2 et e2 N2 l2 a2 pin2 O2=>?_⟩
   have s2:Same H0 H2:=fun b o e=>k2 b o (s1 b o e) (by simpa using B0 e hp)
   refine⟨t,_,rfl,SqT.of et,rfl,_,_,rfl,_,_,rfl,rfl,?_⟩
   refine hN1 _ _ (B8 fun N3 hN3=>?_)
   refine ex1 rfl (ex1 rfl ?_)
   intro x dx nx ndx nex
   have sx:Same H2 (upd (upd H2 dx (.own x)) x (.ins T.CWeb dx [])):=fun b o e=>by
    rw[B5 (B0 e nx),B5 (B0 e ndx)]
    exact e
   refine Wz (a:=x) (b:=dx) (c:=n) (d:=ss) (e:=a) (f:=ps) rfl A9 (sx _ _ e2) N2 (sx _ _ a2) (C7 sx pin2) O2 fun ns qs H3 pn srn pq srq k3 W3=>⟨rfl,?_⟩
   have s3:Same H2 H3:=fun b o e=>k3 b o (sx b o e) (by simpa using B0 e nx)
   refine hN3 _ _ (B8 fun N4 hN4=>?_)
   refine ex1 rfl (ex1 rfl (Xn (a:=n) (b:=a) (c:=ss) (d:=ps) rfl (s3 _ _ e2) N2 (s3 _ _ a2) (C7 s3 pin2) O2 fun v ns' A B H4 hv s4 pm srt V4=>?_))
   have en:ns'=ns:=Ah srt srn (pm.trans pn.symm)
   subst en
   have V4:=V4 n _ (s3 _ _ e2)
   have W4:=W3.same s4
   have s4:=s3.trans s4
   have ln:ns'.length<=10:=by rw[pm.length_eq];exact l2
   have nmn:∀y∈ns',K3 y=true:=fun y hy=>N2.1 y (pm.mem_iff.mp hy)
   have kp:∀k,k∈ps.map (fun q=>q.2)↔k∈qs.map fun q=>q.2:=fun k=>(pq.map _).mem_iff.symm
   have mA':=V4.mA.mono (ks':=(qs.map fun q=>q.2).map fun k=>(k.2,k.1)) fun k=>by rw[List.mem_map,List.mem_map];exact⟨fun⟨j,h,e⟩=>⟨j,(kp j).mp h,e⟩,fun⟨j,h,e⟩=>⟨j,(kp j).mpr h,e⟩⟩
   have mB':=V4.mB.mono kp
   have key:∀(dv:V) (H5:Hp) (Ms:List Nat) (v6 v7 v8:Option V),Ms.Nodup->(∀m,m∈Ms↔MaxM WholeM ns'.length A B m)->Same H4 H5->((Ms.length<=300/\∃(r1:Addr) (ts1:List (Addr×List Str)),dv = .ref r1/\H5 r1=some (.lst (ts1.map fun t=>V.ref t.1))/\(∀t∈ts1,H5 t.1=some (.lst (t.2.map V.str)))/\(ts1.map fun t=>t.2).Perm (Ms.map (setOf ns'))/\ts1.Pairwise (fun a b=>TS.lexB (TS.kyS b.2) (TS.kyS a.2)=false))\/False) ->
     N4 [some (.ref u),some (.int (i:Int)),some (.ref n),some (.ref a),some (.ref x),some dv,v6,v7,v8] H5:=by
    intro dv H5 Ms v6 v7 v8 nd mm s5 hJ
    refine hN4 _ _ (B8 fun N5 hN5=>?_)
    refine⟨_,rfl,by decide,by decide,?_⟩
    refine J5 (fun j σ G=>(∃v6 v7 v8,σ = [some (.ref u),some (.int (i:Int)),some (.ref n),some (.ref a),some (.ref x),some dv,v6,v7,v8])/\Same H5 G) ⟨⟨_,_,_,rfl⟩,fun b o e=>e⟩ ?_ ?_
    ·rintro j σ G hj ⟨⟨v6,v7,v8,rfl⟩,sG⟩ D2 hD2 _
     rw[Int.zero_add]
     refine Vk fun M1 hM1=>?_
     refine ex1 rfl ⟨x,ns',qs,rfl,(W4.same s5).same sG,ln,fun A' B' Ms' mA2 mB2 nd' mm'=>?_⟩
     have pmM:Ms'.Perm Ms:=(List.perm_ext_iff_of_nodup nd' nd).mpr fun m=>by rw[mm',mm];exact MaxM.ext (mA2.one mA') (mB2.one mB')
     have lM:=pmM.length_eq
     refine fun r2 ts2 G2 s2 hr2 er2 LL2 nr2 pm2 srt2=>?_
     ·rcases hJ with⟨le,r1,ts1,rfl,e1,at1,pm1,srt1⟩ | z
      ·have le2:Ms'.length<=300:=by omega
       have el:(ts2.map fun t=>t.2)=ts1.map fun t=>t.2:=Si (List.pairwise_map.mpr srt2) (List.pairwise_map.mpr srt1) (pm2.trans ((pmM.map _).trans pm1.symm))
       have nml:∀l∈ts2.map (fun t=>t.2),∀y∈l,K3 y=true:=fun l hl y hy=>by
        obtain⟨m,_,rfl⟩:=List.mem_map.mp (pm2.mem_iff.mp hl)
        exact nmn y ((Cg ns' m).mem hy)
       have lt2:ts2.length<=300:=by have:=pm2.length_eq;rw[List.length_map,List.length_map]at this;omega
       have lts:∀t∈ts2,t.2.length<=10:=fun t ht=>by
        obtain⟨m,_,e⟩:=List.mem_map.mp (pm2.mem_iff.mp (List.mem_map.mpr ⟨t,ht,rfl⟩))
        rw[<-e]
        exact Nat.le_trans (Cg ns' m).length_le ln
       have rp2:=Qq (K:=K) er2 LL2.at_
       have rp1:=Qq (K:=K) (s2 _ _ (sG _ _ e1)) fun t ht=>s2 _ _ (sG _ _ (at1 t ht))
       rw[<-el]at rp1
       refine hM1 _ _ (B8 fun M2 hM2=>?_)
       refine ex1 rfl (ex1 rfl (Eh rp2 rp1 (Qb nml) ⟨_,rfl,Az ?_⟩))
       refine hM2 _ _ ?_
       have rs:Rp K G2 (.str "many") (.str "many"):=by simp only[Rp]
       refine ex1 rfl ⟨_,_,rp2,rs,Qb nml,Sb,_,rfl,?_⟩
       have ne:PyData.eqv (lld (ts2.map fun t=>t.2)) (.str "many")=false:=by unfold lld;simp[PyData.eqv]
       rw[ne]
       refine Qg ?_
       refine B8 fun R1 hR1=>?_
       refine ex1 rfl ⟨r2,ts2,rfl,er2,fun t ht=>⟨LL2.at_ t ht,Nat.le_trans (lts t ht) (by decide)⟩,by omega,fun G3 s3=>⟨_,rfl,Az ?_⟩⟩
       refine hR1 _ _ (B8 fun R2 hR2=>?_)
       have s23:=s2.trans s3
       have er3:=s3 _ _ er2
       have LL3:=LL2.same s3
       refine ex1 rfl ⟨r2,rfl,⟨_,SqL.of er3⟩,T7 (asL (SqL.of er3)) (fun k σ G4=>(∃v8,σ = [some (.ref u),some (.int (i:Int)),some (.ref n),some (.ref a),some (.ref x),some (.ref r1),some (.int (j:Int)),some (.ref r2),v8])/\Same G G4/\G4 r2=some (.lst (ts2.map fun t=>V.ref t.1))/\∀t∈ts2.drop k,G4 t.1=some (.lst (t.2.map V.str))) ⟨⟨_,rfl⟩,s23,er3,LL3.at_⟩ (fun k σ G4 _ h o e=>by rw[er3]at e;cases e;exact h.2.2.1) ?_ ?_⟩
       ·rintro k σ G4 y hy ⟨⟨v8,rfl⟩,s4,r4,d4⟩ D3 hD3 _
        rw[List.getElem?_map]at hy
        obtain⟨t,ht,rfl⟩:=Option.map_eq_some_iff.mp hy
        have lk:=(List.getElem?_eq_some_iff.mp ht).1
        have mt:=List.mem_of_getElem? ht
        have dr:ts2.drop k=t::ts2.drop (k+1):=by
         rw[List.drop_eq_getElem_cons lk]
         congr 1
         exact Option.some.inj ((List.getElem?_eq_getElem lk).symm.trans ht)
        have et:=d4 t (by rw[dr];exact List.mem_cons_self ..)
        refine ex1 rfl ⟨.inl ⟨rfl,_,SqL.of et⟩,t.1,_,_,rfl,rfl,et,by have:=lts t mt;rw[List.length_map,sizeLine_eq];omega,hD3 _ _ ⟨⟨_,rfl⟩,s4.upd (LL2.new t mt),(B5 (nr2 t mt).symm).trans r4,fun t' ht'=>?_⟩⟩
        have nt:t'.1≠t.1:=by
         have nd3:((ts2.drop k).map fun t=>t.1).Nodup:=LL2.nd.sublist ((List.drop_sublist k ts2).map _)
         rw[dr,List.map_cons]at nd3
         exact fun z=>(List.nodup_cons.mp nd3).1 (List.mem_map.mpr ⟨t',ht',z⟩)
        rw[B5 nt]
        exact d4 t' (by rw[dr];exact List.mem_cons_of_mem _ ht')
       ·rintro σ G4 ⟨⟨v8,rfl⟩,s4,r4,_⟩
        refine hR2 _ _ ?_
        refine ex1 rfl ⟨.inl ⟨rfl,_,SqL.of r4⟩,Nat.zero_le _,fun z hz=>?_⟩
        have uz:=Same.new (o:=.lst []) hz
        refine⟨r2,_,_,rfl,rfl,uz _ _ r4,by rw[List.length_map,sizeLine_eq];omega,?_⟩
        exact hD2 _ _ ⟨⟨_,_,_,rfl⟩,sG.trans ((s4.trans uz).upd hr2)⟩
      ·exact z.elim
    ·rintro σ G ⟨⟨v6,v7,v8,rfl⟩,sG⟩
     have sG:=s5.trans sG
     have WG:=W4.same sG
     refine hN5 _ _ ?_
     obtain⟨okw,dw,_,_,_,_,_,_,ew,_⟩:=id WG
     refine ex1 rfl ⟨x,dw,ex1 rfl ⟨ew,rfl,x,ns',qs,rfl,WG,fun l hl=>?_⟩⟩
     have sl:=Same.new (o:=.lst (ns'.map V.str)) hl
     have s24:=s4.trans sG
     refine ex1 rfl ⟨n,ss,rfl,SqL.of (sl _ _ (s24 _ _ e2)),fun l3 ns3 hl3 pm3 srt3=>?_⟩
     have e3:ns3=ns':=Ah srt3 srn (pm3.trans pn.symm)
     subst e3
     have sl3:=Same.new (o:=.lst (ns3.map V.str)) hl3
     refine Eh (Et (SqL.of (sl3 _ _ A9))) (Et (SqL.of A9)) (Kj nmn) ⟨_,rfl,Az ?_⟩
     have s6:=sl.trans sl3
     refine ex1 rfl ⟨x,dw,ex1 rfl ⟨s6 _ _ ew,rfl,x,ns3,qs,rfl,WG.same s6,fun l4 hl4=>?_⟩⟩
     have s7:=s6.trans (Same.new (o:=.lst (J8 qs)) hl4)
     refine ex1 rfl ⟨a,ps,rfl,SqL.of (s7 _ _ (s24 _ _ a2)),C7 s7 (C7 s24 pin2),fun l5 ps' hl5 pp srp=>?_⟩
     have s8:=Same.new (o:=.lst (J8 ps')) hl5
     have ek:(qs.map fun q=>q.2)=ps'.map fun q=>q.2:=Fk srq srp (pq.trans pp.symm)
     have ek2:(qs.map fun q=>pd q.2)=ps'.map fun q=>pd q.2:=by
      have:=congrArg (List.map pd) ek
      rw[List.map_map,List.map_map]at this
      exact this
     have pinq:∀q∈qs,E4 H2 q:=fun q hq=>pin2 q (pq.mem_iff.mp hq)
     have rq:=Av (K:=K) (s8 _ _ A9) (C7 s8 (C7 s7 (C7 s24 pinq)))
     have rp:=Av (K:=K) (H:=upd _ l5 (.lst (J8 ps'))) A9 (C7 s8 (C7 s7 (C7 s24 fun q hq=>pin2 q (pp.mem_iff.mp hq))))
     rw[<-ek2]at rp
     refine Eh rq rp (Pc fun q hq=>⟨nmn _ (okw.mem q hq).1,nmn _ (okw.mem q hq).2⟩) ⟨_,rfl,Az ?_⟩
     refine hD1 _ _ ⟨⟨_,_,_,_,_,_,_,_,rfl⟩,?_⟩
     exact s0.trans ((s2.trans s24).trans (s7.trans s8))
   refine⟨n,v,ns',_,A,B,rfl,V4,ln,fun Ms nd mm r1 ts1 H5 s5 hr1 er1 LL1 pm1 srt1=>?_⟩
   have le:Ms.length<=300:=Hw ln nd (fun m hm=>((mm m).mp hm).1.1.1) fun a ha b hb s=>MaxM.anti ((mm a).mp ha) ((mm b).mp hb) s
   exact key _ H5 Ms _ _ _ nd mm s5 (.inl ⟨le,r1,ts1,rfl,er1,LL1.at_,pm1,srt1⟩)
  ·rintro σ H1 _
   exact q H1
end
section
variable{K:PySem.W.Frag}{h:Heap}{mg:Str->Option Value}
noncomputable def fn_mk{x:Str}{st:Stmt}{ps:List Str}{f:Addr}{oc:Value}{od an:Option Addr}{osl:Array (Option Value)}{kV doc pm cdv ct:Value}(X:K.In h)(G:h.Ns mainGlobals mg)(a:PySem.W.nsIn K mainGlobals x=some (some (.ref f)))
  (l:K.lookup f=some ⟨oc,od,.func (PySem.W.fnOf x x (K9 st) (G8 st) (B4 st) .none kV doc pm an cdv ct),osl⟩) (c:PySem.W.codeIn K cdv x=true) (k:PySem.W.keepIn K (.ref f)=true)
  (hb:∀(kV doc pm:Value) (an:Option Addr) (cdv ct:Value) (us:List Value),us.length=ps.length->bindArgs (PySem.W.fnOf x x (K9 st) (G8 st) (B4 st) .none kV doc pm an cdv ct) ⟨us,[]⟩=pure (ps.zip us)):Fn K mg x st ps :=
 ⟨f,_,fun_mk l c k,(fun_mk l c k).binds hb,PySem.W.mg_of X G a⟩
noncomputable def mt_mk{C:Addr}{x q:Str}{st:Stmt}{ps:List Str}{f:Addr}{oc:Value}{od an:Option Addr}{osl:Array (Option Value)}{kV doc pm cdv ct:Value}(a:PySem.W.findIn K (.ref C) x=some (some (.ref f)))(i:PySem.W.isFn K (.ref f)=true)
  (l:K.lookup f=some ⟨oc,od,.func (PySem.W.fnOf x q (K9 st) (G8 st) (B4 st) .none kV doc pm an cdv ct),osl⟩) (c:PySem.W.codeIn K cdv q=true) (k:PySem.W.keepIn K (.ref f)=true)
  (hb:∀(kV doc pm:Value) (an:Option Addr) (cdv ct:Value) (us:List Value),us.length=ps.length->bindArgs (PySem.W.fnOf x q (K9 st) (G8 st) (B4 st) .none kV doc pm an cdv ct) ⟨us,[]⟩=pure (ps.zip us)):Mt K C x q st ps :=
 ⟨f,_,fun_mk l c k,(fun_mk l c k).binds hb,⟨a,i,k⟩⟩
theorem str_mk{x z:Str}{v:Value}(X:K.In h)(G:h.Ns mainGlobals mg)(a:PySem.W.nsIn K mainGlobals x=some (some v))(e:∃t,v = .str z t):∃t,mg x=some (.str z t):=by
 obtain⟨t,rfl⟩:=e
 exact⟨t,PySem.W.mg_of X G a⟩
theorem int_mk{x:Str}{z:Int}{v:Value}(X:K.In h)(G:h.Ns mainGlobals mg)(a:PySem.W.nsIn K mainGlobals x=some (some v))(e:∃t,v = .int z t):∃t,mg x=some (.int z t):=by
 obtain⟨t,rfl⟩:=e
 exact⟨t,PySem.W.mg_of X G a⟩
theorem len1{us:List Value}(h:us.length=1):∃a,us = [a]:=List.length_eq_one_iff.mp h
theorem len2{us:List Value}(h:us.length=2):∃a b,us = [a,b]:=by
 cases us with
 | nil=>cases h
 | cons a r=>obtain⟨b,rfl⟩:=len1 (Nat.succ.inj h);exact⟨a,b,rfl⟩
theorem len3{us:List Value}(h:us.length=3):∃a b c,us = [a,b,c]:=by
 cases us with
 | nil=>cases h
 | cons a r=>obtain⟨b,c,rfl⟩:=len2 (Nat.succ.inj h);exact⟨a,b,c,rfl⟩
theorem Yh{us:List Value}(h:us.length=4):∃a b c d,us = [a,b,c,d]:=by
 cases us with
 | nil=>cases h
 | cons a r=>obtain⟨b,c,d,rfl⟩:=len3 (Nat.succ.inj h);exact⟨a,b,c,d,rfl⟩
theorem Ys{us:List Value}(h:us.length=5):∃a b c d e,us = [a,b,c,d,e]:=by
 cases us with
 | nil=>cases h
 | cons a r=>obtain⟨b,c,d,e,rfl⟩:=Yh (Nat.succ.inj h);exact⟨a,b,c,d,e,rfl⟩
theorem len6{us:List Value}(h:us.length=6):∃a b c d e f,us = [a,b,c,d,e,f]:=by
 cases us with
 | nil=>cases h
 | cons a r=>obtain⟨b,c,d,e,f,rfl⟩:=Ys (Nat.succ.inj h);exact⟨a,b,c,d,e,f,rfl⟩
theorem ni_mk{C:Addr}(h:PySem.W.findIn K (.ref C) "__init__" = some (some (.builtin "ValueError.__init__"))):PySem.W.findIn K (.ref C) "__init__" = some (some (.builtin "ValueError.__init__")):=h
theorem noattr_mk{C:Addr}{f:Str}(h:PySem.W.findIn K (.ref C) f=some none):NoAttr K C f:=h
end
theorem all_mk{l:PySem.W.OpenLaw}{w:World}{K:PySem.W.Frag}{h:Heap}{mg:Str->Option Value}{fa f:Addr}{oc:Value}{od an:Option Addr}{osl:Array (Option Value)}{kV doc pm cdv ct:Value}(X:K.In h)(G:h.Ns mainGlobals mg)(hfa:mg "law" = some (.ref fa))
  (T:Tx K mg) (a:PySem.W.nsIn K mainGlobals "law" = some (some (.ref f))) (lk:K.lookup f=some ⟨oc,od,.func (PySem.W.fnOf "law" "law" (K9 s_law) (G8 s_law) (B4 s_law) .none kV doc pm an cdv ct),osl⟩) (c:PySem.W.codeIn K cdv "law" = true) (k:PySem.W.keepIn K (.ref f)=true) :
  ∃fd:FuncData,(∀(s:Shared) (v:Value),BindsTo s fd ⟨[v],[]⟩ [("_law_script",v)])/\∀base:Heap,K.In base->base.Ns mainGlobals mg->FnOk l.prog w K mg base CX0 20 fa fd ["_law_script"] (Gu K):=by
 have e:=hfa.symm.trans (PySem.W.mg_of X G a)
 cases e
 exact⟨PySem.W.fnOf "law" "law" (K9 s_law) (G8 s_law) (B4 s_law) .none kV doc pm an cdv ct,fun s v=>.of_eq rfl,fun base _ _=>Vy T (fun_mk lk c k)⟩
theorem walk{l:PySem.W.OpenLaw}{q:Program}{loose:List Str}{XP:(Str->Option Value)->Heap->Prop}{YP:World->Heap->Prop}{d:DefRec}{K:Params->PySem.W.Frag}(hn:l.most=some 63)(hdf:d.params.defaults = [])
  (hY:∀(w:World) (h:Heap),YP w h->(K w.params).In h)
  (F:∀(w:World) (mg:Str->Option Value) (fa:Addr) (h:Heap),(K w.params).In h->h.Ns mainGlobals mg->mg d.name=some (.ref fa) ->
   ∃fd:FuncData,(∀(s:Shared) (u:Value),BindsTo s fd ⟨[u],[]⟩ [("_law_script",u)])/\∀base:Heap,(K w.params).In base->base.Ns mainGlobals mg->FnOk l.prog w (K w.params) mg base CX0 20 fa fd ["_law_script"] (Gu (K w.params))) :
  PySem.W.WalkO q loose XP YP l.row.toRowW d [] (fun f vs=>PySem.call f vs) :=
 L2.walk_of (n:=63) (k:=20) (x := "_law_script") (CX:=fun _=>CX0) (sp:=fun w=>Gu (K w.params)) hn (by decide) hdf ⟨rfl,by decide,by decide⟩ hY F (fun _ _ a ns hl _ hS=>⟨a,ns,rfl,hS,hl,fun _=>rfl⟩) fun _ _ _ _ _ z=>z
end Sw
open PySem PySem.W PyProof.Rows
set_option maxRecDepth 100000 in
set_option maxHeartbeats 0 in
theorem PySem.Challenge.cw_strikeweave_k24_greatest_sets_holds : PySem.Challenge.rw_strikeweave_k24_greatest_sets.Holds := by
 w_on;o_law;k_head;(case hw=>w_witness2)
 k_fill
 refine Sw.walk (l:=PySem.Challenge.rw_strikeweave_k24_greatest_sets) rfl rfl (fun w h Y=>PySem.W.kIn_of Y) ?F
 case F =>
  intro w mg fa h KX G hmg
  refine' Sw.all_mk KX G hmg (Sw.Tx.mk (Sw.fn_mk KX G ?a1 ?l2 ?c3 ?k4 (fun _ _ _ _ _ _ us hl=>by obtain⟨a,rfl⟩:=Sw.len1 hl;rfl))
   (Sw.fn_mk KX G ?a5 ?l6 ?c7 ?k8 (fun _ _ _ _ _ _ us hl=>by obtain⟨a,rfl⟩:=Sw.len1 hl;rfl))
   (Sw.fn_mk KX G ?a9 ?l10 ?c11 ?k12 (fun _ _ _ _ _ _ us hl=>by obtain⟨a,rfl⟩:=Sw.len1 hl;rfl))
   (Sw.fn_mk KX G ?a13 ?l14 ?c15 ?k16 (fun _ _ _ _ _ _ us hl=>by obtain⟨a,b,c,rfl⟩:=Sw.len3 hl;rfl))
   (Sw.fn_mk KX G ?a17 ?l18 ?c19 ?k20 (fun _ _ _ _ _ _ us hl=>by obtain⟨a,b,c,d,e,f,rfl⟩:=Sw.len6 hl;rfl))
   (Sw.fn_mk KX G ?a21 ?l22 ?c23 ?k24 (fun _ _ _ _ _ _ us hl=>by obtain⟨a,b,c,rfl⟩:=Sw.len3 hl;rfl))
   (Sw.fn_mk KX G ?a25 ?l26 ?c27 ?k28 (fun _ _ _ _ _ _ us hl=>by obtain⟨a,b,c,rfl⟩:=Sw.len3 hl;rfl))
   (Sw.fn_mk KX G ?a29 ?l30 ?c31 ?k32 (fun _ _ _ _ _ _ us hl=>by obtain⟨a,rfl⟩:=Sw.len1 hl;rfl))
   (Sw.fn_mk KX G ?a33 ?l34 ?c35 ?k36 (fun _ _ _ _ _ _ us hl=>by obtain⟨a,rfl⟩:=Sw.len1 hl;rfl))
   (Sw.fn_mk KX G ?a37 ?l38 ?c39 ?k40 (fun _ _ _ _ _ _ us hl=>by obtain⟨a,b,rfl⟩:=Sw.len2 hl;rfl))
   (Sw.fn_mk KX G ?a41 ?l42 ?c43 ?k44 (fun _ _ _ _ _ _ us hl=>by obtain⟨a,b,rfl⟩:=Sw.len2 hl;rfl))
   (Sw.fn_mk KX G ?a45 ?l46 ?c47 ?k48 (fun _ _ _ _ _ _ us hl=>by obtain⟨a,b,rfl⟩:=Sw.len2 hl;rfl))
   (Sw.fn_mk KX G ?a49 ?l50 ?c51 ?k52 (fun _ _ _ _ _ _ us hl=>by obtain⟨a,b,rfl⟩:=Sw.len2 hl;rfl))
   (Sw.fn_mk KX G ?a53 ?l54 ?c55 ?k56 (fun _ _ _ _ _ _ us hl=>by obtain⟨a,b,rfl⟩:=Sw.len2 hl;rfl))
   (Sw.fn_mk KX G ?a57 ?l58 ?c59 ?k60 (fun _ _ _ _ _ _ us hl=>by obtain⟨a,b,rfl⟩:=Sw.len2 hl;rfl))
   (Sw.fn_mk KX G ?a61 ?l62 ?c63 ?k64 (fun _ _ _ _ _ _ us hl=>by obtain⟨a,rfl⟩:=Sw.len1 hl;rfl))
   (Sw.fn_mk KX G ?a65 ?l66 ?c67 ?k68 (fun _ _ _ _ _ _ us hl=>by obtain⟨a,b,rfl⟩:=Sw.len2 hl;rfl))
   (Sw.fn_mk KX G ?a69 ?l70 ?c71 ?k72 (fun _ _ _ _ _ _ us hl=>by obtain⟨a,rfl⟩:=Sw.len1 hl;rfl))
   (Sw.fn_mk KX G ?a73 ?l74 ?c75 ?k76 (fun _ _ _ _ _ _ us hl=>by obtain⟨a,b,rfl⟩:=Sw.len2 hl;rfl))
   (Sw.fn_mk KX G ?a77 ?l78 ?c79 ?k80 (fun _ _ _ _ _ _ us hl=>by obtain⟨a,b,rfl⟩:=Sw.len2 hl;rfl))
   (Sw.fn_mk KX G ?a81 ?l82 ?c83 ?k84 (fun _ _ _ _ _ _ us hl=>by obtain⟨a,b,rfl⟩:=Sw.len2 hl;rfl))
   (Sw.fn_mk KX G ?a85 ?l86 ?c87 ?k88 (fun _ _ _ _ _ _ us hl=>by obtain⟨a,b,rfl⟩:=Sw.len2 hl;rfl))
   (Sw.fn_mk KX G ?a89 ?l90 ?c91 ?k92 (fun _ _ _ _ _ _ us hl=>by obtain⟨a,b,rfl⟩:=Sw.len2 hl;rfl))
   (Sw.fn_mk KX G ?a93 ?l94 ?c95 ?k96 (fun _ _ _ _ _ _ us hl=>by obtain⟨a,b,rfl⟩:=Sw.len2 hl;rfl))
   (Sw.fn_mk KX G ?a97 ?l98 ?c99 ?k100 (fun _ _ _ _ _ _ us hl=>by obtain⟨a,rfl⟩:=Sw.len1 hl;rfl))
   (Sw.fn_mk KX G ?a101 ?l102 ?c103 ?k104 (fun _ _ _ _ _ _ us hl=>by obtain⟨a,b,rfl⟩:=Sw.len2 hl;rfl))
   (Sw.fn_mk KX G ?a105 ?l106 ?c107 ?k108 (fun _ _ _ _ _ _ us hl=>by obtain⟨a,rfl⟩:=Sw.len1 hl;rfl))
   (Sw.fn_mk KX G ?a109 ?l110 ?c111 ?k112 (fun _ _ _ _ _ _ us hl=>by obtain⟨a,rfl⟩:=Sw.len1 hl;rfl))
   (Sw.fn_mk KX G ?a113 ?l114 ?c115 ?k116 (fun _ _ _ _ _ _ us hl=>by obtain⟨a,rfl⟩:=Sw.len1 hl;rfl))
   (Sw.fn_mk KX G ?a117 ?l118 ?c119 ?k120 (fun _ _ _ _ _ _ us hl=>by obtain⟨a,rfl⟩:=Sw.len1 hl;rfl))
   _
   ⟨?g122,?g123,?g124,?g125⟩
   (PySem.W.mg_of KX G ?q121)
   (Sw.noattr_mk ?n126)
   (Sw.noattr_mk ?n127)
   (Sw.noattr_mk ?n128)
   (Sw.noattr_mk ?n129)
   (Sw.noattr_mk ?n130)
   (Sw.noattr_mk ?n131)
   _
   _
   (L2.fun_mk ?l134 ?c135 ?k136)
   (L2.Fun.binds (L2.fun_mk ?l134 ?c135 ?k136) (fun _ _ _ _ _ _ us hl=>by obtain⟨a,b,rfl⟩:=Sw.len2 hl;rfl))
   ⟨?g137,?a132,?i133,?k138⟩
   (Sw.mt_mk ?a139 ?i140 ?l141 ?c142 ?k143 (fun _ _ _ _ _ _ us hl=>by obtain⟨a,b,rfl⟩:=Sw.len2 hl;rfl))
   (Sw.mt_mk ?a144 ?i145 ?l146 ?c147 ?k148 (fun _ _ _ _ _ _ us hl=>by obtain⟨a,b,rfl⟩:=Sw.len2 hl;rfl))
   (Sw.mt_mk ?a149 ?i150 ?l151 ?c152 ?k153 (fun _ _ _ _ _ _ us hl=>by obtain⟨a,b,rfl⟩:=Sw.len2 hl;rfl))
   (Sw.mt_mk ?a154 ?i155 ?l156 ?c157 ?k158 (fun _ _ _ _ _ _ us hl=>by obtain⟨a,b,rfl⟩:=Sw.len2 hl;rfl))
   (Sw.mt_mk ?a159 ?i160 ?l161 ?c162 ?k163 (fun _ _ _ _ _ _ us hl=>by obtain⟨a,b,rfl⟩:=Sw.len2 hl;rfl))
   (Sw.mt_mk ?a164 ?i165 ?l166 ?c167 ?k168 (fun _ _ _ _ _ _ us hl=>by obtain⟨a,b,rfl⟩:=Sw.len2 hl;rfl))
   (Sw.mt_mk ?a169 ?i170 ?l171 ?c172 ?k173 (fun _ _ _ _ _ _ us hl=>by obtain⟨a,b,rfl⟩:=Sw.len2 hl;rfl))
   (Sw.mt_mk ?a174 ?i175 ?l176 ?c177 ?k178 (fun _ _ _ _ _ _ us hl=>by obtain⟨a,b,rfl⟩:=Sw.len2 hl;rfl))
   _
   ⟨?g180,?g181,?g182,?g183⟩
   (PySem.W.mg_of KX G ?q179)
   (Sw.noattr_mk ?n184)
   (Sw.noattr_mk ?n185)
   (Sw.noattr_mk ?n186)
   (Sw.noattr_mk ?n187)
   _
   _
   (L2.fun_mk ?l190 ?c191 ?k192)
   (L2.Fun.binds (L2.fun_mk ?l190 ?c191 ?k192) (fun _ _ _ _ _ _ us hl=>by obtain⟨a,b,c,rfl⟩:=Sw.len3 hl;rfl))
   ⟨?g193,?a188,?i189,?k194⟩
   (Sw.mt_mk ?a195 ?i196 ?l197 ?c198 ?k199 (fun _ _ _ _ _ _ us hl=>by obtain⟨a,rfl⟩:=Sw.len1 hl;rfl))
   (Sw.mt_mk ?a200 ?i201 ?l202 ?c203 ?k204 (fun _ _ _ _ _ _ us hl=>by obtain⟨a,rfl⟩:=Sw.len1 hl;rfl))
   (Sw.mt_mk ?a205 ?i206 ?l207 ?c208 ?k209 (fun _ _ _ _ _ _ us hl=>by obtain⟨a,b,rfl⟩:=Sw.len2 hl;rfl))
   (Sw.mt_mk ?a210 ?i211 ?l212 ?c213 ?k214 (fun _ _ _ _ _ _ us hl=>by obtain⟨a,b,rfl⟩:=Sw.len2 hl;rfl))
   (Sw.mt_mk ?a215 ?i216 ?l217 ?c218 ?k219 (fun _ _ _ _ _ _ us hl=>by obtain⟨a,b,rfl⟩:=Sw.len2 hl;rfl))
   _
   _
   (L2.xc_mk ?l221 ?t222 ?k223 ?g224 ?g225)
   (PySem.W.mg_of KX G ?q220)
   _
   _
   (L2.xc_mk ?l227 ?t228 ?k229 ?g230 ?g231)
   (PySem.W.mg_of KX G ?q226)
   _
   _
   (L2.xc_mk ?l233 ?t234 ?k235 ?g236 ?g237)
   (PySem.W.mg_of KX G ?q232)
   _
   _
   (L2.xc_mk ?l239 ?t240 ?k241 ?g242 ?g243)
   (PySem.W.mg_of KX G ?q238)
   _
   _
   (L2.xc_mk ?l245 ?t246 ?k247 ?g248 ?g249)
   (PySem.W.mg_of KX G ?q244)
   ⟨?g250,?g251,?g252,?g253⟩
   ⟨?g254,?g255,?g256,?g257,L2.kit_same _ _⟩
   (Sw.noattr_mk ?n258)
   _
   _
   (L2.fun_mk ?l261 ?c262 ?k263)
   (L2.Fun.binds (L2.fun_mk ?l261 ?c262 ?k263) (fun _ _ _ _ _ _ us hl=>by obtain⟨a,b,rfl⟩:=Sw.len2 hl;rfl))
   ⟨?a259,?i260,?k263⟩
   ⟨?g264,?g265,?g266,?g267⟩
   ⟨?g268,?g269,?g270,?g271,L2.kit_same _ _⟩
   (Sw.noattr_mk ?n272)
   _
   _
   (L2.fun_mk ?l275 ?c276 ?k277)
   (L2.Fun.binds (L2.fun_mk ?l275 ?c276 ?k277) (fun _ _ _ _ _ _ us hl=>by obtain⟨a,b,rfl⟩:=Sw.len2 hl;rfl))
   ⟨?a273,?i274,?k277⟩
   ⟨?g278,?g279,?g280,?g281⟩
   ⟨?g282,?g283,?g284,?g285,L2.kit_same _ _⟩
   (Sw.ni_mk ?g286)
   ⟨?g287,?g288,?g289,?g290⟩
   ⟨?g291,?g292,?g293,?g294,L2.kit_same _ _⟩
   ?u295
   (Sw.ni_mk ?g296)
   (Sw.int_mk KX G ?v297 ?e298)
   (Sw.str_mk KX G ?v299 ?e300)
   (Sw.int_mk KX G ?v301 ?e302)
   (PySem.W.mg_none_of KX G ?z303)
   (PySem.W.mg_none_of KX G ?z304)
   (PySem.W.mg_none_of KX G ?z305)
   (PySem.W.mg_none_of KX G ?z306)
   (PySem.W.mg_none_of KX G ?z307)
   (PySem.W.mg_none_of KX G ?z308)
   (PySem.W.mg_none_of KX G ?z309)
   (PySem.W.mg_none_of KX G ?z310)
   (PySem.W.mg_none_of KX G ?z311)
   (PySem.W.mg_none_of KX G ?z312)
   (PySem.W.mg_none_of KX G ?z313)
   (PySem.W.mg_none_of KX G ?z314)
   (PySem.W.mg_none_of KX G ?z315)
   (PySem.W.mg_none_of KX G ?z316)
   (PySem.W.mg_none_of KX G ?z317)
   (PySem.W.mg_none_of KX G ?z318)
   (PySem.W.mg_none_of KX G ?z319)) ?aL ?lL ?cL ?kL
  (case a1=>k_is);(case l2=>k_is);(case c3=>k_is);(case k4=>k_is);(case a5=>k_is);(case l6=>k_is)
  (case c7=>k_is);(case k8=>k_is);(case a9=>k_is);(case l10=>k_is);(case c11=>k_is);(case k12=>k_is)
  (case a13=>k_is);(case l14=>k_is);(case c15=>k_is);(case k16=>k_is);(case a17=>k_is);(case l18=>k_is)
  (case c19=>k_is);(case k20=>k_is);(case a21=>k_is);(case l22=>k_is);(case c23=>k_is);(case k24=>k_is)
  (case a25=>k_is);(case l26=>k_is);(case c27=>k_is);(case k28=>k_is);(case a29=>k_is);(case l30=>k_is)
  (case c31=>k_is);(case k32=>k_is);(case a33=>k_is);(case l34=>k_is);(case c35=>k_is);(case k36=>k_is)
  (case a37=>k_is);(case l38=>k_is);(case c39=>k_is);(case k40=>k_is);(case a41=>k_is);(case l42=>k_is)
  (case c43=>k_is);(case k44=>k_is);(case a45=>k_is);(case l46=>k_is);(case c47=>k_is);(case k48=>k_is)
  (case a49=>k_is);(case l50=>k_is);(case c51=>k_is);(case k52=>k_is);(case a53=>k_is);(case l54=>k_is)
  (case c55=>k_is);(case k56=>k_is);(case a57=>k_is);(case l58=>k_is);(case c59=>k_is);(case k60=>k_is)
  (case a61=>k_is);(case l62=>k_is);(case c63=>k_is);(case k64=>k_is);(case a65=>k_is);(case l66=>k_is)
  (case c67=>k_is);(case k68=>k_is);(case a69=>k_is);(case l70=>k_is);(case c71=>k_is);(case k72=>k_is)
  (case a73=>k_is);(case l74=>k_is);(case c75=>k_is);(case k76=>k_is);(case a77=>k_is);(case l78=>k_is)
  (case c79=>k_is);(case k80=>k_is);(case a81=>k_is);(case l82=>k_is);(case c83=>k_is);(case k84=>k_is)
  (case a85=>k_is);(case l86=>k_is);(case c87=>k_is);(case k88=>k_is);(case a89=>k_is);(case l90=>k_is)
  (case c91=>k_is);(case k92=>k_is);(case a93=>k_is);(case l94=>k_is);(case c95=>k_is);(case k96=>k_is)
  (case a97=>k_is);(case l98=>k_is);(case c99=>k_is);(case k100=>k_is);(case a101=>k_is);(case l102=>k_is)
  (case c103=>k_is);(case k104=>k_is);(case a105=>k_is);(case l106=>k_is);(case c107=>k_is);(case k108=>k_is)
  (case a109=>k_is);(case l110=>k_is);(case c111=>k_is);(case k112=>k_is);(case a113=>k_is);(case l114=>k_is)
  (case c115=>k_is);(case k116=>k_is);(case a117=>k_is);(case l118=>k_is);(case c119=>k_is);(case k120=>k_is)
  (case q121=>k_is);(case g122=>k_is);(case g123=>k_is);(case g124=>k_is);(case g125=>k_is);(case n126=>k_is)
  (case n127=>k_is);(case n128=>k_is);(case n129=>k_is);(case n130=>k_is);(case n131=>k_is);(case a132=>k_is)
  (case i133=>k_is);(case l134=>k_is);(case c135=>k_is);(case k136=>k_is);(case g137=>k_is);(case k138=>k_is)
  (case a139=>k_is);(case i140=>k_is);(case l141=>k_is);(case c142=>k_is);(case k143=>k_is);(case a144=>k_is)
  (case i145=>k_is);(case l146=>k_is);(case c147=>k_is);(case k148=>k_is);(case a149=>k_is);(case i150=>k_is)
  (case l151=>k_is);(case c152=>k_is);(case k153=>k_is);(case a154=>k_is);(case i155=>k_is);(case l156=>k_is)
  (case c157=>k_is);(case k158=>k_is);(case a159=>k_is);(case i160=>k_is);(case l161=>k_is);(case c162=>k_is)
  (case k163=>k_is);(case a164=>k_is);(case i165=>k_is);(case l166=>k_is);(case c167=>k_is);(case k168=>k_is)
  (case a169=>k_is);(case i170=>k_is);(case l171=>k_is);(case c172=>k_is);(case k173=>k_is);(case a174=>k_is)
  (case i175=>k_is);(case l176=>k_is);(case c177=>k_is);(case k178=>k_is);(case q179=>k_is);(case g180=>k_is)
  (case g181=>k_is);(case g182=>k_is);(case g183=>k_is);(case n184=>k_is);(case n185=>k_is);(case n186=>k_is)
  (case n187=>k_is);(case a188=>k_is);(case i189=>k_is);(case l190=>k_is);(case c191=>k_is);(case k192=>k_is)
  (case g193=>k_is);(case k194=>k_is);(case a195=>k_is);(case i196=>k_is);(case l197=>k_is);(case c198=>k_is)
  (case k199=>k_is);(case a200=>k_is);(case i201=>k_is);(case l202=>k_is);(case c203=>k_is);(case k204=>k_is)
  (case a205=>k_is);(case i206=>k_is);(case l207=>k_is);(case c208=>k_is);(case k209=>k_is);(case a210=>k_is)
  (case i211=>k_is);(case l212=>k_is);(case c213=>k_is);(case k214=>k_is);(case a215=>k_is);(case i216=>k_is)
  (case l217=>k_is);(case c218=>k_is);(case k219=>k_is);(case q220=>k_is);(case l221=>k_is);(case t222=>kernel_rfl)
  (case k223=>k_is);(case g224=>k_is);(case g225=>k_is);(case q226=>k_is);(case l227=>k_is);(case t228=>kernel_rfl)
  (case k229=>k_is);(case g230=>k_is);(case g231=>k_is);(case q232=>k_is);(case l233=>k_is);(case t234=>kernel_rfl)
  (case k235=>k_is);(case g236=>k_is);(case g237=>k_is);(case q238=>k_is);(case l239=>k_is);(case t240=>kernel_rfl)
  (case k241=>k_is);(case g242=>k_is);(case g243=>k_is);(case q244=>k_is);(case l245=>k_is);(case t246=>kernel_rfl)
  (case k247=>k_is);(case g248=>k_is);(case g249=>k_is);(case g250=>k_is);(case g251=>k_is);(case g252=>k_is)
  (case g253=>k_is);(case g254=>k_is);(case g255=>k_is);(case g256=>k_is);(case g257=>k_is);(case n258=>k_is)
  (case a259=>k_is);(case i260=>k_is);(case l261=>k_is);(case c262=>k_is);(case k263=>k_is);(case g264=>k_is)
  (case g265=>k_is);(case g266=>k_is);(case g267=>k_is);(case g268=>k_is);(case g269=>k_is);(case g270=>k_is)
  (case g271=>k_is);(case n272=>k_is);(case a273=>k_is);(case i274=>k_is);(case l275=>k_is);(case c276=>k_is)
  (case k277=>k_is);(case g278=>k_is);(case g279=>k_is);(case g280=>k_is);(case g281=>k_is);(case g282=>k_is)
  (case g283=>k_is);(case g284=>k_is);(case g285=>k_is);(case g286=>k_is);(case g287=>k_is);(case g288=>k_is)
  (case g289=>k_is);(case g290=>k_is);(case g291=>k_is);(case g292=>k_is);(case g293=>k_is);(case g294=>k_is)
  (case u295=>kernel_rfl);(case g296=>k_is);(case v297=>k_is);(case e298=>exact⟨_,rfl⟩);(case v299=>k_is);(case e300=>exact⟨_,rfl⟩)
  (case v301=>k_is);(case e302=>exact⟨_,rfl⟩);(case z303=>k_is);(case z304=>k_is);(case z305=>k_is);(case z306=>k_is)
  (case z307=>k_is);(case z308=>k_is);(case z309=>k_is);(case z310=>k_is);(case z311=>k_is);(case z312=>k_is)
  (case z313=>k_is);(case z314=>k_is);(case z315=>k_is);(case z316=>k_is);(case z317=>k_is);(case z318=>k_is)
  (case z319=>k_is);(case aL=>k_is);(case lL=>k_is);(case cL=>k_is);(case kL=>k_is)
