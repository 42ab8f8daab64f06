import PyProof.Rows.All
import Wide.All
import OpenK.AllK
import Wide.FinOn
import PyProof.Rows.SortShellK
import KE.KSortTup
import Lean
import PyProof.EqAt
import PyProof.EqKinds
import PyProof.TupleCall
import PyProof.SetRoads
import PyProof.DictRoadsH
import PyProof.IsRules
import PyProof.CollectWalk
import PyProof.FactsAll.set
import PyProof.NeData
import PyProof.P3In
import PyProof.TupleOfSeq
import PyProof.ZipIter
import PyProof.Rows.ZipGen
import KE.KDictOf
import PyProof.AttrMissHeap
import PyProof.Rows.SumAny
import PyProof.DictIter
import PyProof.DictWalks
import PySem.Challenge.RW_strikeweave_k49_disputes_by_turns
namespace PySem.W.Fast
def tw5308041635440758726:=0
def tw12746402306201400667:=0
def tw14711800259355878189:=0
def tw17478716533078120413:=0
def tw11733819742133593192:=0
def tw13483039136893792436:=0
def tw6088132007690615561:=0
def tw18096003935005624598:=0
def tw4053218701447195746:=0
def tw3974899267561154469:=0
def tw5095951724488306437:=0
def tw5297732093359726939:=0
def tw6322013995714015053:=0
def tw856779474027835581:=0
def tw17248903060113004749:=0
def tw15860351333611623756:=0
def tw13939535067383041733:=0
def tw536887424098413702:=0
def tw9656090861554149648:=0
def tw14072580633551342278:=0
def tw5866920855709568305:=0
def tw15137980515635260270:=0
def tw7966356789211083660:=0
def tw10321427816393919920:=0
def tw6008057274658831905:=0
def tw16914622967486369658:=0
def tw2116230530285169155:=0
def tw4140369609923138011:=0
def tw8140204935757072685:=0
def tw16736836840269006271:=0
def tw5243363570402197600:=0
def tw8631005196697801108:=0
def tw4197468523626092454:=0
def tw15769296319281189652:=0
def tw9908488878701461804:=0
def tw2974993932331789136:=0
def tw16868168027943842550:=0
def tw8695810161414562297:=0
def tw17096113664074296277:=0
def tw14113077287022826404:=0
def tw550077037197338560:=0
def tw18309629007310274670:=0
def tw12977422602799173355:=0
def tw5408365505739416019:=0
def tw14635781301186987161:=0
def tw13376617475219856868:=0
def tw13388488467435539783:=0
def tw7129777881510575932:=0
def tw3669377471455544061:=0
def tw5363796702338986614:=0
def tw2534195491314256621:=0
def tw5462599458956585475:=0
def tw2708790667447044768:=0
def tw17567979860195243874:=0
def tw16340557256812676906:=0
def tw3506730804385454047:=0
def tw18070843160199656369:=0
def tw1138548384051693379:=0
def tw7852213596898876794:=0
def tw9421746683209481272:=0
def tw8421751901742262755:=0
def tw3494044375368087099:=0
def tw16407274834284057789:=0
def tw1120246377360013088:=0
def tw13528681866554853231:=0
def tw16258455665332344722:=0
def tw17364849135669639398:=0
def tw17762004013490865308:=0
def tw10998897405360788316:=0
def tw1867839327875002148:=0
def tw10267386980410129069:=0
def tw11713282780818525050:=0
def tw14840576117096271616:=0
def tw13097263004360445890:=0
def tw16663607476620377659:=0
def tw16170280051727653142:=0
def tw4923371571660353479:=0
def tw16461713080766900260:=0
def tw8310884496887660098:=0
def tw4720785371169855963:=0
def tw1169362607215439731:=0
def tw1786479330216987379:=0
def tw7259061338075381992:=0
def tw8561382231408877406:=0
def tw17963165585543094829:=0
def tw5163575532282454575:=0
def tw17378027792075149549:=0
def tw12356368125128793994:=0
def tw16041382218235574434:=0
def tw1294331838921922805:=0
def tw17322418828520281370:=0
def tw3766147414046674682:=0
def tw12738146820327108147:=0
def tw8432637554056272292:=0
def tw3978650842739932294:=0
def tw1373692667925949607:=0
def tw14738489665468173896:=0
def tw13580023334611280741:=0
def tw1533476341172105349:=0
def tw4355503433993782122:=0
def tw12037032674783331837:=0
def tw9811048606165820887:=0
def tw17187303990560098129:=0
def tw3677207917048662398:=0
def tw9053756350356404782:=0
def tw17747464659988008935:=0
def tw17867415116044982192:=0
def tw954209174159202568:=0
def tw2309267826033399865:=0
def tw6611085211337435504:=0
def tw17816494870855574933:=0
def tw8894917185438665850:=0
def tw8051066872469812804:=0
def tw11373325516675703654:=0
def tw8100915016946288378:=0
def tw4360036182017641574:=0
def tw17527162264158188578:=0
def tw2596754278079016954:=0
def tw4318966334469250242:=0
def tw13146809420253448257:=0
def tw5917850024196530568:=0
def tw14322971040492594442:=0
def tw8465001811841994283:=0
def tw3949737396982215934:=0
def tw16746651798536329104:=0
def tw10437162057928369138:=0
def tw5513638359192609107:=0
def tw6248926709888336148:=0
def tw17044250785324975789:=0
def tw17610759272814208187:=0
def tw5498487061125038698:=0
def tw15732082076259954309:=0
def tw508715845277921915:=0
def tw2783594519193486966:=0
def tw6946400194021231642:=0
def tw11875865152676120802:=0
def tw5896517879548822186:=0
def tw11764942832116842348:=0
def tw714682504070354007:=0
def tw6781503083182833247:=0
def tw18114916778581099739:=0
def tw8105207149168907104:=0
def tw3047770002866676859:=0
def tw5697140086287145347:=0
def tw8107641530306684559:=0
def tw4050279364736234772:=0
def tw13078993603955753553:=0
def tw760768938942870875:=0
def tw327173447282298628:=0
def tw9211889268960635086:=0
def tw5947283993948133860:=0
def tw1374876826590322987:=0
def tw5779243919929719404:=0
def tw359801517140291596:=0
def tw802534397854954920:=0
def tw8046640835731508983:=0
def tw10209393928211554161:=0
def tw8007898954605844446:=0
def tw14023480876749225288:=0
def tw5576067957382336018:=0
def tw18215788454278692644:=0
def tw11436680800261883863:=0
def tw8370618890056313026:=0
def tw10804656803509044141:=0
def tw125407381547392109:=0
def tw17765150137787151436:=0
def tw10997474112467490237:=0
def tw189216144419010629:=0
def tw11425294514026879763:=0
def tw12249090016173844759:=0
def tw16152595603199865389:=0
def tw15214128693555856082:=0
def tw16090563871072938843:=0
def tw16586972551430000989:=0
def tw1361206064212913297:=0
def tw8065769987298878292:=0
def tw1175126123554841597:=0
def tw16081590268816280519:=0
def tw2483385389246926773:=0
def tw7911449555774580953:=0
def tw2596710018503367027:=0
def tw10638785695730931647:=0
def tw4096571568153897033:=0
def tw17044918592490436566:=0
def tw1000598438921613389:=0
def tw13031506025870498394:=0
def tw3881171474205119545:=0
def tw13909254606855576301:=0
def tw13066551676531229097:=0
def tw17804137432009182687:=0
def tw4923013638370709468:=0
def tw9802580463800093286:=0
def tw234604130495287995:=0
def tw1746120373810080979:=0
def tw8244704727415095982:=0
def tw11491394689694777324:=0
def tw13444949375327036927:=0
def tw11535775803901275675:=0
def tw17730039349060314327:=0
def tw11139488033196866738:=0
def tw17270373134791666657:=0
def tw4146343098899077616:=0
def tw14676781876675805853:=0
def tw544910718064476872:=0
def tw3015849586905367562:=0
def tw12176696715939003195:=0
def tw8057627798578364258:=0
def tw599091142284942705:=0
def tw14889897370476100189:=0
def tw17375714190665209472:=0
def tw12631894634829005976:=0
def tw2335409561813432443:=0
def tw1813988961473937235:=0
def tw13787170385615677548:=0
def tw9131554545663769301:=0
def tw11676352972916055328:=0
def tw6459007488309308431:=0
def tw930657504581401830:=0
def tw15979085152359660614:=0
def tw12190662784353611389:=0
def tw8834710067596736431:=0
def tw430108215460073355:=0
def tw12461565229976344548:=0
def tw5079026546351073956:=0
def tw5319636207117995366:=0
def tw4224059076921461462:=0
def tw15440908916674500833:=0
def tw5774881854841273898:=0
def tw17417961220064069864:=0
def tw11973240895174431910:=0
def tw18425752700964107425:=0
def tw6553573443068829122:=0
def tw7545070587330347339:=0
def tw13520414984857751968:=0
def tw3609298821094591709:=0
def tw7295052379954237767:=0
def tw17211791086589833671:=0
def tw15117942240309726617:=0
def tw46295480981546426:=0
def tw2634530156715389974:=0
def tw11873334169213505504:=0
def tw12866276454004649371:=0
def tw2465537567879990179:=0
def tw6012539187669350718:=0
def tw8002915738516485095:=0
def tw13634868080465589440:=0
def tw5301552934266872550:=0
def tw14280363479994547269:=0
def tw8594164201829001133:=0
def tw14407008190309147856:=0
def tw392230630931165827:=0
def tw10026620290032803274:=0
def tw17915164101843254616:=0
def tw4680545615761612380:=0
def tw5855080187322120607:=0
def tw4011997659057252487:=0
def tw864014463015805134:=0
def tw2163211959670778791:=0
def tw16409257683318061174:=0
def tw13637155407064839466:=0
def tw15381559738012808522:=0
def tw790632815693338256:=0
def tw15326184294904472074:=0
def tw3259227199353336272:=0
def tw7063002702921547240:=0
def tw6048720398859204278:=0
def tw6259566914994950671:=0
def tw15800373614010050913:=0
def tw15375385257336999323:=0
def tw13730715678822574374:=0
def tw9809049514267360276:=0
def tw542310234384568946:=0
def tw4974984701775173512:=0
def tw7651095015469279411:=0
def tw7038762185853843593:=0
def tw15788497378713406852:=0
def tw1577671956169790591:=0
def tw2047493941769244482:=0
def tw15862317846904397959:=0
def tw4719013602692117447:=0
def tw12424499680131930502:=0
def tw18298218986215974885:=0
def tw8117711086231935368:=0
def tw8991968283639307067:=0
def tw13960784666729838974:=0
def tw786955940531416438:=0
def tw7784118954350846460:=0
def tw6370995941044356699:=0
def tw723547652903663096:=0
def tw13917855828396504775:=0
def tw9381103895995899433:=0
def tw9791137471667322404:=0
def tw3753217194440318026:=0
def tw5060825878078334325:=0
def tw7521506798884460498:=0
def tw2556952133470516903:=0
def tw13172426277491413706:=0
def tw2510966504930748486:=0
def tw15126678674928339851:=0
def tw17071541723143895587:=0
def tw15407577078180436736:=0
def tw5654157415837328379:=0
def tw9992284106327851289:=0
def tw7567976368193009893:=0
def tw15128322528149849563:=0
def tw10058704963574073517:=0
def tw951522905308630163:=0
def tw2427398185493278193:=0
def tw5076318924301975802:=0
def tw6090029052438587846:=0
def tw9715106261129637099:=0
def tw13838719502550897472:=0
def tw450290116289114718:=0
def tw6631569450047088440:=0
def tw1358569155314602171:=0
def tw15681230055983356851:=0
def tw2528971265798906305:=0
def tw14455803551357433336:=0
def tw14301400858272094754:=0
def tw9952891713489887902:=0
def tw6887334773802752411:=0
def tw4742304739646896117:=0
def tw7224059914658856630:=0
def tw1771613653182147761:=0
def tw2290892081703780205:=0
def tw8636247577717852368:=0
def tw14744302870065463702:=0
def tw16654585047677934715:=0
def tw9796870622473930093:=0
def tw7072329693605623833:=0
def tw13991574178095346018:=0
def tw2050857773123396630:=0
def tw11689185598349334202:=0
def tw12149203029771741970:=0
def tw12027893814158415579:=0
def tw9683808797181792998:=0
def tw2519324220412847244:=0
def tw88471342292733118:=0
def tw6863290217590548916:=0
def tw10073823047236647282:=0
def tw4314477380553552569:=0
def tw3751825140640350387:=0
def tw12143745034363339482:=0
def tw10847601560605458408:=0
def tw18300788269836951161:=0
def tw2471319865529050105:=0
def tw6619161367119817346:=0
def tw6346971402270606254:=0
def tw8755344212279368978:=0
def tw15616721103751936727:=0
def tw13842829349467989068:=0
def tw11341506489106494346:=0
def tw8630885067102698983:=0
def tw7608620278997039766:=0
def tw1793741537419088022:=0
def tw8753502761592021540:=0
def tw9282741589206070470:=0
def tw6646864450224482006:=0
def tw6902594953381731655:=0
def tw2074588667176532660:=0
def tw3044044165851367083:=0
def tw9809274370657870024:=0
def tw901963615638921603:=0
def tw6537754664216944237:=0
def tw12430944385594603226:=0
def tw5836830088860346507:=0
def tw12905997402856742292:=0
def tw1804886278144381819:=0
def tw15636690182386465735:=0
def tw1043441454911392856:=0
def tw15027059492808915174:=0
def tw4424152316445946718:=0
def tw12624211177367097334:=0
def tw12565194970339078405:=0
def tw13550584878722428851:=0
def tw4494305982275766694:=0
def tw14334419719795051162:=0
def tw5759673920846966958:=0
def tw8330528910959837404:=0
def tw988103208187641864:=0
def tw13289747851351635027:=0
def tw6376274282264643337:=0
def tw4451879880437875160:=0
def tw3203493814219903467:=0
def tw12164467504968177977:=0
def tw16916111017699316990:=0
def tw4417946411088224295:=0
def tw14460773134635329313:=0
def tw5080463541401278595:=0
def tw1096449543084422253:=0
def tw318076008909139526:=0
def tw16385580599212938069:=0
def tw2019772023381710202:=0
def tw3157911401720586937:=0
def tw442323178518025854:=0
def tw10401785419514225138:=0
def tw8565098572216211210:=0
def tw13243857806292203540:=0
def tw8630141910714937960:=0
def tw15035854311981127348:=0
def tw4112173160920624270:=0
def tw15734197307902857099:=0
def tw1168432296830708352:=0
def tw7986245462049619454:=0
def tw2427592338268533289:=0
def tw18336502240504032682:=0
def tw16705050328475894179:=0
def tw9493832431379282860:=0
def tw10112822496072575929:=0
def tw8641526751889597096:=0
def tw6882952635926352680:=0
def tw233304653469265:=0
def tw12914120526008907755:=0
def tw11629666968278302996:=0
def tw6898296973914047751:=0
def tw3327388827105846383:=0
def tw17450783882429879038:=0
def tw6132180538196304319:=0
def tw15764785503981252765:=0
def tw11099160493005557856:=0
def tw3823789472032657414:=0
def tw17740227574902585336:=0
def tw4609168192572061761:=0
def tw376413821233843148:=0
def tw3146401093619243030:=0
def tw11964612816356516637:=0
def tw9407546053899132214:=0
def tw10759220657063177033:=0
def tw2605250071572571086:=0
end PySem.W.Fast
set_option autoImplicit false
set_option genSizeOf false
set_option genSizeOfSpec false
set_option bootstrap.genMatcherCode false
set_option compiler.extract_closed false
set_option linter.all false
set_option maxRecDepth 100000
namespace TS
open PySem PyProof.Rows
noncomputable def kk (κ:KeyKind) (p:Keyed):κ.α:=(κ.keyOf p.1).getD κ.dflt
noncomputable def Has (κ:KeyKind) (p:Keyed):Prop:=∃ a,κ.keyOf p.1 = some a
noncomputable def le (κ:KeyKind) (p q:Keyed):Prop:=κ.kle (kk κ p) (kk κ q)
noncomputable def Sor (κ:KeyKind) (l:List Keyed):Prop:=l.Pairwise (le κ)
structure Cmp (prog:Program) (w:World) (A:Around) (s:Shared) (κ:KeyKind) (kd:SortKind):Prop where
 lt:∀ (x y:Value) (a b:κ.α) (Q:Bool->Shared->Prop) (E:Value->Shared->Prop),κ.keyOf x = some a->κ.keyOf y = some b->Q (κ.blt a b) s->wpAny (model prog w) A (keyLt' kd x y) Q E s
section
variable {prog:Program} {w:World} {A:Around} {E:Value->Shared->Prop} {s:Shared} {κ:KeyKind} {kd:SortKind}
theorem Fm (C:Cmp prog w A s κ kd) {st:SortSt} {x y:Keyed} {Q:Option Bool->SortSt->Prop} (hk:kindOf st = kd) (hx:Has κ x) (hy:Has κ y)
  (h:Q (some (κ.blt (kk κ x) (kk κ y))) st):wpS (model prog w) A E s (lt' x y) Q st:=by
 obtain ⟨a,ha⟩:=hx
 obtain ⟨b,hb⟩:=hy
 have e1:kk κ x = a:=by unfold kk; rw [ha]; rfl
 have e2:kk κ y = b:=by unfold kk; rw [hb]; rfl
 rw [e1,e2] at h
 rw [lt'_eq]
 refine wpS_bind (wpS_get ?_)
 rw [hk]
 refine wpS_bind (wpS_lift (wpAny_attempt (C.lt x.1 y.1 a b _ _ ha hb ⟨rfl,?_⟩)))
 exact wpS_pure h
theorem C4 {st:SortSt} {arr:Array Keyed} {i:Nat} {p:Keyed} {Q:Keyed->SortSt->Prop} (hi:arr[i]? = some p) (h:Q p st):wpS (model prog w) A E s (elem' arr i) Q st:=by
 rw [elem'_eq,hi]; exact wpS_pure h
noncomputable def Q9:Bool->Keyed->Array Keyed->Nat->Nat->Nat->StateT SortSt Sem (Option Nat):=sortPriv% PySem.Builtin.gallop
noncomputable def bey (left:Bool) (ky:Keyed) (ar:Array Keyed) (bs:Nat) (i:Nat):StateT SortSt Sem (Option Bool):=do
 let x <-elem' ar (bs + i)
 if left then lt' x ky else return (<-lt' ky x).map (!·)
theorem Lu (left:Bool) (ky:Keyed) (ar:Array Keyed) (bs n ht:Nat):Q9 left ky ar bs n ht = (do
  let mut la:=0
  let mut of:=1
  let mut lo:=0
  let mut hi:=0
  let some ri <-bey left ky ar bs ht | return none
  if ri then
   let mx:=n - ht
   for _ in [0:n] do
    if of ≥ mx then break
    let some mo <-bey left ky ar bs (ht + of) | return none
    if !mo then break
    la:=of
    of:=2 * of + 1
   lo:=ht + la + 1
   hi:=ht + min of mx
  else
   let mx:=ht + 1
   for _ in [0:n] do
    if of ≥ mx then break
    let some fo <-bey left ky ar bs (ht - of) | return none
    if fo then break
    la:=of
    of:=2 * of + 1
   lo:=ht + 1 - min of mx
   hi:=ht - la
  for _ in [0:n] do
   if lo ≥ hi then break
   let m:=lo + (hi - lo) / 2
   let some mo <-bey left ky ar bs m | return none
   if mo then lo:=m + 1 else hi:=m
  return some hi):=rfl
noncomputable def PB (κ:KeyKind) (left:Bool) (ky:Keyed) (p:Keyed):Bool:=if left then κ.blt (kk κ p) (kk κ ky) else !κ.blt (kk κ ky) (kk κ p)
theorem Ux (C:Cmp prog w A s κ kd) {st:SortSt} {left:Bool} {ky p:Keyed} {ar:Array Keyed} {bs i:Nat} {Q:Option Bool->SortSt->Prop} (hk:kindOf st = kd) (hky:Has κ ky) (hp:Has κ p) (hi:ar[bs + i]? = some p)
  (h:Q (some (PB κ left ky p)) st):wpS (model prog w) A E s (bey left ky ar bs i) Q st:=by
 unfold bey
 refine wpS_bind (C4 hi ?_)
 cases left with
 | true=>exact Fm C hk hp hky h
 | false =>
  simp only [Bool.false_eq_true,if_false]
  refine wpS_bind (Fm C hk hky hp ?_)
  exact wpS_pure h
theorem Lk (C:Cmp prog w A s κ kd) {st:SortSt} {left:Bool} {ky:Keyed} {ar:Array Keyed} {bs n ht:Nat} {Q:Option Nat->SortSt->Prop} (hk:kindOf st = kd) (hky:Has κ ky)
  (P:Nat->Bool) (hP:∀ i,i < n->∃ p,ar[bs + i]? = some p/\Has κ p/\PB κ left ky p = P i) (mono:∀ i j,i<=j->j < n->P j = true->P i = true) (hht:ht < n)
  (h:∀ k,k<=n->(∀ i,i < k->P i = true)->(∀ i,k<=i->i < n->P i = false)->Q (some k) st):wpS (model prog w) A E s (Q9 left ky ar bs n ht) Q st:=by
 have B:∀ {st':SortSt} {i:Nat} {Q:Option Bool->SortSt->Prop},st' = st->i < n->Q (some (P i)) st'->wpS (model prog w) A E s (bey left ky ar bs i) Q st':=by
  intro st' i Q e hi q
  subst e
  obtain ⟨p,h1,h2,h3⟩:=hP i hi
  exact Ux C hk hky h2 h1 (by rw [h3]; exact q)
 have nmono:∀ i j,i<=j->j < n->P i = false->P j = false:=by
  intro i j hij hj hi
  cases e:P j with
  | false=>rfl
  | true=>rw [mono i j hij hj e] at hi; cases hi
 rw [Lu]
 dsimp only
 refine wpS_bind (B rfl hht ?_)
 dsimp only
 have S:∀ {lo hi:Nat} {f:Nat->(Option (Option Nat) × Nat × Nat)->StateT SortSt Sem (ForInStep (Option (Option Nat) × Nat × Nat))},
   (∀ x l h,wpS (model prog w) A E s (f x (none,l,h)) (fun r st'=>st' = st/\(if h<=l then r = .done (none,l,h) else if P (l + (h - l) / 2) = true then r = .yield (none,l + (h - l) / 2 + 1,h) else r = .yield (none,l,l + (h - l) / 2))) st\/¬ (h<=l\/l + (h - l) / 2 < n)) ->
   lo<=hi->hi<=n->(∀ i,i < lo->P i = true)->(∀ i,hi<=i->i < n->P i = false) ->
   wpS (model prog w) A E s (forIn [0:n] (none,lo,hi) f) (fun c st'=>st' = st/\∃ k,c = (none,k,k)/\k<=n/\(∀ i,i < k->P i = true)/\(∀ i,k<=i->i < n->P i = false)) st:=by
  intro lo hi f hf h1 h2 h3 h4
  refine wpS_forRange (I:=fun x c st'=>st' = st/\∃ l r,c = (none,l,r)/\l<=r/\r<=n/\r - l<=n - x/\(∀ i,i < l->P i = true)/\(∀ i,r<=i->i < n->P i = false)) ?_ ?_ ⟨rfl,lo,hi,rfl,h1,h2,by omega,h3,h4⟩
  ·rintro x c st' _ hx ⟨rfl,l,r,rfl,hl,hr,hm,ha,hb⟩
   have hin:r<=l\/l + (r - l) / 2 < n:=by omega
   rcases hf x l r with q | q
   ·refine wpS_mono q fun z st2 ⟨e,q2⟩=>?_
    subst e
    by_cases hge:r<=l
    ·rw [if_pos hge] at q2
     subst q2
     have:l = r:=by omega
     subst this
     exact ⟨rfl,l,rfl,hr,ha,hb⟩
    ·rw [if_neg hge] at q2
     cases hp:P (l + (r - l) / 2) with
     | true =>
      rw [if_pos hp] at q2
      subst q2
      exact ⟨rfl,_,_,rfl,by omega,by omega,by omega,fun i hi=>mono i (l + (r - l) / 2) (by omega) (by omega) hp,hb⟩
     | false =>
      rw [if_neg (by rw [hp]; exact Bool.false_ne_true)] at q2
      subst q2
      exact ⟨rfl,_,_,rfl,by omega,by omega,by omega,ha,fun i hi1 hi2=>nmono (l + (r - l) / 2) i hi1 hi2 hp⟩
   ·exact absurd hin q
  ·rintro c st' ⟨rfl,l,r,rfl,hl,hr,hm,ha,hb⟩
   have:l = r:=by omega
   subst this
   exact ⟨rfl,l,rfl,hr,ha,hb⟩
 cases hr:P ht with
 | true =>
  rw [if_pos rfl]
  refine wpS_bind (wpS_mono (wpS_forRange (I:=fun x c st'=>st' = st/\∃ la of,c = (none,la,of)/\la < of/\x + 1<=of/\ht + la < n/\P (ht + la) = true)
   (Q:=fun c st'=>st' = st/\∃ la of,c = (none,la,of)/\la < of/\ht + la < n/\P (ht + la) = true/\(n - ht<=of\/(ht + of < n/\P (ht + of) = false))) ?st ?en ⟨rfl,0,1,rfl,by omega,by omega,by omega,hr⟩) ?po)
  case en =>
   rintro c st' ⟨rfl,la,of,rfl,a1,a2,a3,a4⟩
   exact ⟨rfl,la,of,rfl,a1,a3,a4,.inl (by omega)⟩
  case st =>
   rintro x c st' _ hx ⟨rfl,la,of,rfl,a1,a2,a3,a4⟩
   dsimp only
   by_cases hge:of ≥ n - ht
   ·rw [if_pos hge]
    exact wpS_pure ⟨rfl,la,of,rfl,a1,a3,a4,.inl hge⟩
   ·rw [if_neg hge]
    refine wpS_bind (B rfl (show ht + of < n by omega) ?_)
    cases hp:P (ht + of) with
    | true=>exact wpS_pure ⟨rfl,of,2 * of + 1,rfl,by omega,by omega,by omega,hp⟩
    | false=>exact wpS_pure ⟨rfl,la,of,rfl,a1,a3,a4,.inr ⟨by omega,hp⟩⟩
  case po =>
   rintro c st' ⟨rfl,la,of,rfl,a1,a3,a4,a5⟩
   dsimp only
   refine wpS_bind (wpS_mono (S (lo:=ht + la + 1) (hi:=ht + min of (n - ht)) (fun x l h'=>by
    dsimp only
    by_cases hge:h'<=l
    ·refine .inl ?_
     rw [if_pos hge]
     exact wpS_pure ⟨rfl,by rw [if_pos hge]⟩
    ·by_cases hn:l + (h' - l) / 2 < n
     ·refine .inl ?_
      rw [if_neg hge]
      refine wpS_bind (B rfl hn ?_)
      dsimp only
      cases hp:P (l + (h' - l) / 2) with
      | true =>
       simp only [if_true]
       exact wpS_pure ⟨rfl,by rw [if_neg hge]⟩
      | false =>
       simp only [Bool.false_eq_true,if_false]
       exact wpS_pure ⟨rfl,by rw [if_neg hge]⟩
     ·exact .inr (by omega)) (by omega) (by omega) (fun i hi=>mono i (ht + la) (by omega) a3 a4) fun i hi1 hi2=>?_) fun c st' ⟨e,k,e2,b1,b2,b3⟩=>?_)
   ·rcases a5 with a5 | ⟨a5,a6⟩
    ·omega
    ·exact nmono (ht + of) i (by omega) hi2 a6
   ·subst e e2
    exact wpS_pure (h k b1 b2 b3)
 | false =>
  rw [if_neg Bool.false_ne_true]
  refine wpS_bind (wpS_mono (wpS_forRange (I:=fun x c st'=>st' = st/\∃ la of,c = (none,la,of)/\la < of/\x + 1<=of/\la<=ht/\P (ht - la) = false)
   (Q:=fun c st'=>st' = st/\∃ la of,c = (none,la,of)/\la < of/\la<=ht/\P (ht - la) = false/\(ht + 1<=of\/(of<=ht/\P (ht - of) = true))) ?st ?en ⟨rfl,0,1,rfl,by omega,by omega,by omega,hr⟩) ?po)
  case en =>
   rintro c st' ⟨rfl,la,of,rfl,a1,a2,a3,a4⟩
   exact ⟨rfl,la,of,rfl,a1,a3,a4,.inl (by omega)⟩
  case st =>
   rintro x c st' _ hx ⟨rfl,la,of,rfl,a1,a2,a3,a4⟩
   dsimp only
   by_cases hge:of ≥ ht + 1
   ·rw [if_pos hge]
    exact wpS_pure ⟨rfl,la,of,rfl,a1,a3,a4,.inl hge⟩
   ·rw [if_neg hge]
    refine wpS_bind (B rfl (show ht - of < n by omega) ?_)
    cases hp:P (ht - of) with
    | false=>exact wpS_pure ⟨rfl,of,2 * of + 1,rfl,by omega,by omega,by omega,hp⟩
    | true=>exact wpS_pure ⟨rfl,la,of,rfl,a1,a3,a4,.inr ⟨by omega,hp⟩⟩
  case po =>
   rintro c st' ⟨rfl,la,of,rfl,a1,a3,a4,a5⟩
   dsimp only
   refine wpS_bind (wpS_mono (S (lo:=ht + 1 - min of (ht + 1)) (hi:=ht - la) (fun x l h'=>by
    dsimp only
    by_cases hge:h'<=l
    ·refine .inl ?_
     rw [if_pos hge]
     exact wpS_pure ⟨rfl,by rw [if_pos hge]⟩
    ·by_cases hn:l + (h' - l) / 2 < n
     ·refine .inl ?_
      rw [if_neg hge]
      refine wpS_bind (B rfl hn ?_)
      dsimp only
      cases hp:P (l + (h' - l) / 2) with
      | true =>
       simp only [if_true]
       exact wpS_pure ⟨rfl,by rw [if_neg hge]⟩
      | false =>
       simp only [Bool.false_eq_true,if_false]
       exact wpS_pure ⟨rfl,by rw [if_neg hge]⟩
     ·exact .inr (by omega)) (by omega) (by omega) (fun i hi=>?_) fun i hi1 hi2=>nmono (ht - la) i (by omega) hi2 a4) fun c st' ⟨e,k,e2,b1,b2,b3⟩=>?_)
   ·rcases a5 with a5 | ⟨a5,a6⟩
    ·omega
    ·exact mono i (ht - of) (by omega) (by omega) a6
   ·subst e e2
    exact wpS_pure (h k b1 b2 b3)
end
end TS
namespace TS
open PySem PyProof.Rows
section
variable {κ:KeyKind}
theorem le_refl (p:Keyed):le κ p p:=KeyOrd.kle_refl _
theorem le_trans {p q r:Keyed} (h1:le κ p q) (h2:le κ q r):le κ p r:=KeyOrd.kle_trans h1 h2
structure ML (κ:KeyKind) (a b:List Keyed) (o:List Keyed) (i j:Nat):Prop where
 perm:o.Perm (a.take i ++ b.take j)
 sor:Sor κ o
 la:∀ x ∈ o,∀ y ∈ a.drop i,le κ x y
 lb:∀ x ∈ o,∀ y ∈ b.drop j,le κ x y
theorem ML.sym {a b o:List Keyed} {i j:Nat} (m:ML κ a b o i j):ML κ b a o j i:=⟨m.perm.trans List.perm_append_comm,m.sor,m.lb,m.la⟩
theorem Fx {l:List Keyed} (k:Nat) (h:Sor κ l):∀ x ∈ l.take k,∀ y ∈ l.drop k,le κ x y:=by
 have h':Sor κ (l.take k ++ l.drop k):=by rw [List.take_append_drop]; exact h
 exact (List.pairwise_append.mp h').2.2
theorem ML.addA {a b o:List Keyed} {i j:Nat} (m:ML κ a b o i j) (sa:Sor κ a) (k:Nat) (hk:∀ y ∈ (a.drop i).take k,∀ z ∈ b.drop j,le κ y z):ML κ a b (o ++ (a.drop i).take k) (i + k) j:=by
 have hs:Sor κ (a.drop i):=sa.sublist (List.drop_sublist _ _)
 refine ⟨?_,?_,fun x hx y hy=>?_,fun x hx y hy=>?_⟩
 ·rw [List.take_add]
  refine (List.Perm.append_right _ m.perm).trans ?_
  rw [List.append_assoc,List.append_assoc]
  exact List.Perm.append_left _ List.perm_append_comm
 ·refine List.pairwise_append.mpr ⟨m.sor,hs.sublist (List.take_sublist _ _),fun x hx y hy=>m.la x hx y (List.mem_of_mem_take hy)⟩
 ·rw [<-List.drop_drop] at hy
  rcases List.mem_append.mp hx with hx | hx
  ·exact m.la x hx y (List.mem_of_mem_drop hy)
  ·exact Fx k hs x hx y hy
 ·rcases List.mem_append.mp hx with hx | hx
  ·exact m.lb x hx y hy
  ·exact hk x hx y hy
theorem ML.addB {a b o:List Keyed} {i j:Nat} (m:ML κ a b o i j) (sb:Sor κ b) (k:Nat) (hk:∀ y ∈ (b.drop j).take k,∀ z ∈ a.drop i,le κ y z):ML κ a b (o ++ (b.drop j).take k) i (j + k) :=
 (m.sym.addA sb k hk).sym
theorem ML.endA {a b o:List Keyed} {i j:Nat} (m:ML κ a b o i j) (sa:Sor κ a) (sb:Sor κ b) (h:∀ y ∈ a.drop i,∀ z ∈ b.drop j,le κ y z):Sor κ (o ++ a.drop i ++ b.drop j)/\(o ++ a.drop i ++ b.drop j).Perm (a ++ b):=by
 refine ⟨?_,?_⟩
 ·refine List.pairwise_append.mpr ⟨List.pairwise_append.mpr ⟨m.sor,sa.sublist (List.drop_sublist _ _),m.la⟩,sb.sublist (List.drop_sublist _ _),fun x hx y hy=>?_⟩
  rcases List.mem_append.mp hx with hx | hx
  ·exact m.lb x hx y hy
  ·exact h x hx y hy
 ·have h1:(o ++ a.drop i ++ b.drop j).Perm ((a.take i ++ b.take j) ++ a.drop i ++ b.drop j):=List.Perm.append_right _ (List.Perm.append_right _ m.perm)
  refine h1.trans ?_
  have h2:((a.take i ++ b.take j) ++ a.drop i ++ b.drop j).Perm ((a.take i ++ a.drop i) ++ (b.take j ++ b.drop j)):=by
   rw [List.append_assoc,List.append_assoc,List.append_assoc]
   refine List.Perm.append_left _ ?_
   rw [<-List.append_assoc,<-List.append_assoc]
   exact List.Perm.append_right _ List.perm_append_comm
  rw [List.take_append_drop,List.take_append_drop] at h2
  exact h2
theorem ML.endB {a b o:List Keyed} {i j:Nat} (m:ML κ a b o i j) (sa:Sor κ a) (sb:Sor κ b) (h:∀ y ∈ b.drop j,∀ z ∈ a.drop i,le κ y z):Sor κ (o ++ b.drop j ++ a.drop i)/\(o ++ b.drop j ++ a.drop i).Perm (a ++ b) :=
 ⟨(m.sym.endA sb sa h).1,(m.sym.endA sb sa h).2.trans List.perm_append_comm⟩
structure MH (κ:KeyKind) (a b:List Keyed) (o:List Keyed) (i j:Nat):Prop where
 perm:o.Perm (a.drop i ++ b.drop j)
 sor:Sor κ o
 la:∀ x ∈ o,∀ y ∈ a.take i,le κ y x
 lb:∀ x ∈ o,∀ y ∈ b.take j,le κ y x
theorem MH.sym {a b o:List Keyed} {i j:Nat} (m:MH κ a b o i j):MH κ b a o j i:=⟨m.perm.trans List.perm_append_comm,m.sor,m.lb,m.la⟩
theorem MH.addA {a b o:List Keyed} {i j:Nat} (m:MH κ a b o i j) (sa:Sor κ a) (k:Nat) (hki:k<=i) (hk:∀ y ∈ (a.take i).drop k,∀ z ∈ b.take j,le κ z y):MH κ a b ((a.take i).drop k ++ o) k j:=by
 have hs:Sor κ (a.take i):=sa.sublist (List.take_sublist _ _)
 have e:a.drop k = (a.take i).drop k ++ a.drop i:=by
  conv=>lhs; rw [<-List.take_append_drop i a]
  rw [List.drop_append]
  by_cases hl:i<=a.length
  ·rw [List.length_take,Nat.min_eq_left hl,Nat.sub_eq_zero_of_le hki,List.drop_zero]
  ·have:a.drop i = []:=List.drop_eq_nil_of_le (by lia)
   rw [this,List.drop_nil]
 have e2:(a.take i).take k = a.take k:=by rw [List.take_take,Nat.min_eq_left hki]
 refine ⟨?_,?_,fun x hx y hy=>?_,fun x hx y hy=>?_⟩
 ·rw [e,List.append_assoc]
  exact List.Perm.append_left _ m.perm
 ·exact List.pairwise_append.mpr ⟨hs.sublist (List.drop_sublist _ _),m.sor,fun x hx y hy=>m.la y hy x (List.mem_of_mem_drop hx)⟩
 ·rw [<-e2] at hy
  rcases List.mem_append.mp hx with hx | hx
  ·exact Fx k hs y hy x hx
  ·exact m.la x hx y (List.mem_of_mem_take hy)
 ·rcases List.mem_append.mp hx with hx | hx
  ·exact hk x hx y hy
  ·exact m.lb x hx y hy
theorem MH.addB {a b o:List Keyed} {i j:Nat} (m:MH κ a b o i j) (sb:Sor κ b) (k:Nat) (hkj:k<=j) (hk:∀ y ∈ (b.take j).drop k,∀ z ∈ a.take i,le κ z y):MH κ a b ((b.take j).drop k ++ o) i k :=
 (m.sym.addA sb k hkj hk).sym
theorem MH.endA {a b o:List Keyed} {i j:Nat} (m:MH κ a b o i j) (sa:Sor κ a) (sb:Sor κ b) (h:∀ y ∈ a.take i,∀ z ∈ b.take j,le κ y z):Sor κ (a.take i ++ b.take j ++ o)/\(a.take i ++ b.take j ++ o).Perm (a ++ b):=by
 refine ⟨?_,?_⟩
 ·refine List.pairwise_append.mpr ⟨List.pairwise_append.mpr ⟨sa.sublist (List.take_sublist _ _),sb.sublist (List.take_sublist _ _),h⟩,m.sor,fun x hx y hy=>?_⟩
  rcases List.mem_append.mp hx with hx | hx
  ·exact m.la y hy x hx
  ·exact m.lb y hy x hx
 ·have h1:(a.take i ++ b.take j ++ o).Perm (a.take i ++ b.take j ++ (a.drop i ++ b.drop j)):=List.Perm.append_left _ m.perm
  refine h1.trans ?_
  have h2:(a.take i ++ b.take j ++ (a.drop i ++ b.drop j)).Perm ((a.take i ++ a.drop i) ++ (b.take j ++ b.drop j)):=by
   rw [List.append_assoc,List.append_assoc]
   refine List.Perm.append_left _ ?_
   rw [<-List.append_assoc,<-List.append_assoc]
   exact List.Perm.append_right _ List.perm_append_comm
  rw [List.take_append_drop,List.take_append_drop] at h2
  exact h2
theorem MH.endB {a b o:List Keyed} {i j:Nat} (m:MH κ a b o i j) (sa:Sor κ a) (sb:Sor κ b) (h:∀ y ∈ b.take j,∀ z ∈ a.take i,le κ y z):Sor κ (b.take j ++ a.take i ++ o)/\(b.take j ++ a.take i ++ o).Perm (a ++ b) :=
 ⟨(m.sym.endA sb sa h).1,(m.sym.endA sb sa h).2.trans List.perm_append_comm⟩
end
section
variable {prog:Program} {w:World} {A:Around} {E:Value->Shared->Prop} {s:Shared} {κ:KeyKind} {kd:SortKind}
noncomputable def y8 (g:Nat):StateT SortSt Sem Unit:=modify fun s=>SortSt.mk' (kindOf s) (arrOf s) (pendingOf s) g (failedOf s)
noncomputable def Eh:Array Keyed->Array Keyed->StateT SortSt Sem (Array Keyed):=sortPriv% PySem.Builtin.mergeLo
theorem Ia (a b:Array Keyed):Eh a b = (do
  rule "list.sort.merge-lo"
  let tot:=a.size + b.size
  let dn (o:Array Keyed) (i j:Nat):=o ++ a.extract i a.size ++ b.extract j b.size
  let lA (o:Array Keyed) (i j:Nat):=o ++ b.extract j b.size ++ a.extract i a.size
  let mut o:Array Keyed:=#[<-elem' b 0]
  let mut i:=0
  let mut j:=1
  if j == b.size then return dn o i j
  if i + 1 == a.size then return lA o i j
  let mut mg:=gallopOf (<-get)
  for _ in [0:tot] do
   let mut ac:=0
   let mut bc:=0
   for _ in [0:tot] do
    let some bw <-lt' (<-elem' b j) (<-elem' a i) | return dn o i j
    if bw then
     o:=o.push (<-elem' b j); j:=j + 1; bc:=bc + 1; ac:=0
     if j == b.size then return dn o i j
     if bc ≥ mg then break
    else
     o:=o.push (<-elem' a i); i:=i + 1; ac:=ac + 1; bc:=0
     if i + 1 == a.size then return lA o i j
     if ac ≥ mg then break
   rule "list.sort.gallop"
   mg:=mg + 1
   for _ in [0:tot] do
    if mg > 1 then mg:=mg - 1
    y8 mg
    let some k <-Q9 false (<-elem' b j) a i (a.size - i) 0 | return dn o i j
    ac:=k
    if k > 0 then
     o:=o ++ a.extract i (i + k); i:=i + k
     if i + 1 == a.size then return lA o i j
     if i == a.size then return dn o i j
    o:=o.push (<-elem' b j); j:=j + 1
    if j == b.size then return dn o i j
    let some k <-Q9 true (<-elem' a i) b j (b.size - j) 0 | return dn o i j
    bc:=k
    if k > 0 then
     o:=o ++ b.extract j (j + k); j:=j + k
     if j == b.size then return dn o i j
    o:=o.push (<-elem' a i); i:=i + 1
    if i + 1 == a.size then return lA o i j
    if ac < 7 && bc < 7 then break
   mg:=mg + 1
   y8 mg
  unsupported "internal:list.sort.merge-bound"):=rfl
noncomputable def Sm (st st':SortSt):Prop:=kindOf st' = kindOf st/\arrOf st' = arrOf st/\pendingOf st' = pendingOf st/\failedOf st' = failedOf st
theorem Sm.refl (st:SortSt):Sm st st:=⟨rfl,rfl,rfl,rfl⟩
theorem T4 {st st0:SortSt} {g:Nat} {Q:Unit->SortSt->Prop} (hs:Sm st0 st) (h:∀ st',Sm st0 st'->Q () st'):wpS (model prog w) A E s (y8 g) Q st :=
 wpS_modify (h _ ⟨hs.1,hs.2.1,hs.2.2.1,hs.2.2.2⟩)
theorem Ce {l:List Keyed} {i k:Nat} {y:Keyed} (h:y ∈ (l.drop i).take k):∃ t,t < k/\l[i + t]? = some y:=by
 obtain ⟨t,ht,e⟩:=List.mem_iff_getElem.mp h
 rw [List.length_take,List.length_drop] at ht
 refine ⟨t,by lia,?_⟩
 rw [List.getElem_take,List.getElem_drop] at e
 rw [<-e]
 exact List.getElem?_eq_getElem (by lia)
theorem Ih {l:List Keyed} {i:Nat} {y:Keyed} (h:y ∈ l.drop i):∃ t,i + t < l.length/\l[i + t]? = some y:=by
 obtain ⟨t,ht,e⟩:=List.mem_iff_getElem.mp h
 rw [List.length_drop] at ht
 refine ⟨t,by lia,?_⟩
 rw [List.getElem_drop] at e
 rw [<-e]
 exact List.getElem?_eq_getElem (by lia)
theorem Lh {l:List Keyed} {i:Nat} {y:Keyed} (h:y ∈ l.take i):∃ t,t < i/\t < l.length/\l[t]? = some y:=by
 obtain ⟨t,ht,e⟩:=List.mem_iff_getElem.mp h
 rw [List.length_take] at ht
 refine ⟨t,by lia,by lia,?_⟩
 rw [List.getElem_take] at e
 rw [<-e]
 exact List.getElem?_eq_getElem (by lia)
theorem Tr {l:List Keyed} {i k:Nat} {y:Keyed} (h:y ∈ (l.take i).drop k):∃ t,k<=t/\t < i/\l[t]? = some y:=by
 obtain ⟨t,h1,h2⟩:=Ih h
 rw [List.length_take] at h1
 rw [List.getElem?_take_of_lt (by lia)] at h2
 exact ⟨k + t,by lia,by lia,h2⟩
theorem j4 {l:List Keyed} (h:Sor κ l) {i j:Nat} {p q:Keyed} (hij:i<=j) (hp:l[i]? = some p) (hq:l[j]? = some q):le κ p q:=by
 obtain ⟨h1,rfl⟩:=List.getElem?_eq_some_iff.mp hp
 obtain ⟨h2,rfl⟩:=List.getElem?_eq_some_iff.mp hq
 rcases Nat.lt_or_eq_of_le hij with z | z
 ·exact List.pairwise_iff_getElem.mp h i j h1 h2 z
 ·subst z; exact le_refl _
theorem Di {l:List Keyed} (h:Sor κ l) {i:Nat} {p:Keyed} (hp:l[i]? = some p):∀ z ∈ l.drop i,le κ p z:=fun z hz=>by
 obtain ⟨t,_,e⟩:=Ih hz
 exact j4 h (Nat.le_add_right _ _) hp e
theorem ar_get {a:Array Keyed} {i:Nat} {p:Keyed}:a[i]? = some p ↔ a.toList[i]? = some p:=by rw [Array.getElem?_toList]
theorem V5 {a:Array Keyed} {i:Nat} (h:i < a.size):∃ p,a[i]? = some p:=⟨a[i],getElem?_pos a i h⟩
theorem Qh {l:List Keyed} {i:Nat} {p:Keyed} (h:l[i]? = some p):(l.drop i).take 1 = [p]:=by
 obtain ⟨h1,rfl⟩:=List.getElem?_eq_some_iff.mp h
 rw [List.drop_eq_getElem_cons h1]
 rfl
theorem Dc (a:Array Keyed) (i k:Nat):(a.extract i (i + k)).toList = (a.toList.drop i).take k:=by
 rw [Array.toList_extract,List.extract_eq_take_drop,Nat.add_sub_cancel_left]
theorem Y9 (a:Array Keyed) (i:Nat):(a.extract i a.size).toList = a.toList.drop i:=by
 rw [Array.toList_extract,List.extract_eq_take_drop,List.take_of_length_le]
 rw [List.length_drop,Array.length_toList]
 exact Nat.le_refl _
theorem Y5 (a:Array Keyed) (i:Nat):(a.extract 0 i).toList = a.toList.take i:=by
 rw [Array.toList_extract,List.extract_eq_take_drop,List.drop_zero,Nat.sub_zero]
noncomputable def Rm (κ:KeyKind) (a b r:Array Keyed):Prop:=Sor κ r.toList/\r.toList.Perm (a.toList ++ b.toList)
structure Pre (κ:KeyKind) (a b:Array Keyed):Prop where
 sa:Sor κ a.toList
 sb:Sor κ b.toList
 ka:∀ (i:Nat) p,a[i]? = some p->Has κ p
 kb:∀ (i:Nat) p,b[i]? = some p->Has κ p
 na:1<=a.size
 nb:1<=b.size
 first:∀ q,b[0]? = some q->∀ z ∈ a.toList,le κ q z
 last:∀ p,a[a.size - 1]? = some p->∀ z ∈ b.toList,le κ z p
section
variable {a b o:Array Keyed} {i j k:Nat} {p q:Keyed}
theorem Pre.pushB (P:Pre κ a b) (m:ML κ a.toList b.toList o.toList i j) (hq:b[j]? = some q) (h:∀ z ∈ a.toList.drop i,le κ q z):ML κ a.toList b.toList (o.push q).toList i (j + 1):=by
 have h1:=m.addB P.sb 1 (by rw [Qh (ar_get.mp hq)]; intro y hy; rw [List.mem_singleton.mp hy]; exact h)
 rw [Qh (ar_get.mp hq)] at h1
 rw [Array.toList_push]
 exact h1
theorem Pre.pushA (P:Pre κ a b) (m:ML κ a.toList b.toList o.toList i j) (hp:a[i]? = some p) (h:∀ z ∈ b.toList.drop j,le κ p z):ML κ a.toList b.toList (o.push p).toList (i + 1) j:=by
 have h1:=m.addA P.sa 1 (by rw [Qh (ar_get.mp hp)]; intro y hy; rw [List.mem_singleton.mp hy]; exact h)
 rw [Qh (ar_get.mp hp)] at h1
 rw [Array.toList_push]
 exact h1
theorem Pre.extA (P:Pre κ a b) (m:ML κ a.toList b.toList o.toList i j) (h:∀ y ∈ (a.toList.drop i).take k,∀ z ∈ b.toList.drop j,le κ y z):ML κ a.toList b.toList (o ++ a.extract i (i + k)).toList (i + k) j:=by
 rw [Array.toList_append,Dc]
 exact m.addA P.sa k h
theorem Pre.extB (P:Pre κ a b) (m:ML κ a.toList b.toList o.toList i j) (h:∀ y ∈ (b.toList.drop j).take k,∀ z ∈ a.toList.drop i,le κ y z):ML κ a.toList b.toList (o ++ b.extract j (j + k)).toList i (j + k):=by
 rw [Array.toList_append,Dc]
 exact m.addB P.sb k h
theorem Pre.doneB (P:Pre κ a b) (m:ML κ a.toList b.toList o.toList i j) (hj:j = b.size):Rm κ a b (o ++ a.extract i a.size ++ b.extract j b.size):=by
 unfold Rm
 rw [Array.toList_append,Array.toList_append,Y9,Y9]
 refine m.endA P.sa P.sb fun y _ z hz=>?_
 rw [List.drop_eq_nil_of_le (by rw [Array.length_toList]; lia)] at hz
 exact absurd hz (by simp)
theorem Pre.doneA (P:Pre κ a b) (m:ML κ a.toList b.toList o.toList i j) (hi:i = a.size):Rm κ a b (o ++ a.extract i a.size ++ b.extract j b.size):=by
 unfold Rm
 rw [Array.toList_append,Array.toList_append,Y9,Y9]
 refine m.endA P.sa P.sb fun y hy z _=>?_
 rw [List.drop_eq_nil_of_le (by rw [Array.length_toList]; lia)] at hy
 exact absurd hy (by simp)
theorem Pre.lastA (P:Pre κ a b) (m:ML κ a.toList b.toList o.toList i j) (hi:i + 1 = a.size):Rm κ a b (o ++ b.extract j b.size ++ a.extract i a.size):=by
 unfold Rm
 rw [Array.toList_append,Array.toList_append,Y9,Y9]
 refine m.endB P.sa P.sb fun y hy z hz=>?_
 obtain ⟨t,h1,h2⟩:=Ih hz
 rw [Array.length_toList] at h1
 have e:i + t = a.size - 1:=by lia
 rw [e] at h2
 exact P.last z (ar_get.mpr h2) y (List.mem_of_mem_drop hy)
end
theorem Sm.knd {st st':SortSt} (h:Sm st st') {k:SortKind} (hk:kindOf st = k):kindOf st' = k:=h.1.trans hk
theorem Y8 (C:Cmp prog w A s κ kd) {st:SortSt} {left:Bool} {ky:Keyed} {ar:Array Keyed} {bs n ht:Nat} {Q:Option Nat->SortSt->Prop} (hk:kindOf st = kd) (hky:Has κ ky)
  (hsz:bs + n<=ar.size) (hh:∀ (i:Nat) p,ar[i]? = some p->Has κ p) (hs:∀ (u v:Nat) p q,u<=v->v < n->ar[bs + u]? = some p->ar[bs + v]? = some q->le κ p q) (hht:ht < n)
  (h:∀ k,k<=n->(∀ (t:Nat) p,t < k->ar[bs + t]? = some p->PB κ left ky p = true)->(∀ (t:Nat) p,k<=t->t < n->ar[bs + t]? = some p->PB κ left ky p = false)->Q (some k) st) :
  wpS (model prog w) A E s (Q9 left ky ar bs n ht) Q st:=by
 have key:∀ t,t < n->∃ p,ar[bs + t]? = some p:=fun t ht=>V5 (by lia)
 refine Lk C hk hky (fun t=>match ar[bs + t]? with | some p=>PB κ left ky p | none=>false) (fun i hi=>?_) (fun i j hij hj hp=>?_) hht fun k hk1 h1 h2=>?_
 ·obtain ⟨p,hp⟩:=key i hi
  exact ⟨p,hp,hh _ p hp,by rw [hp]⟩
 ·obtain ⟨p,e1⟩:=key i (by lia)
  obtain ⟨q,e2⟩:=key j hj
  rw [e2] at hp
  rw [e1]
  have l:=hs i j p q hij hj e1 e2
  dsimp only at hp ⊢
  unfold PB at hp ⊢
  cases left with
  | true =>
   simp only [if_true] at hp ⊢
   exact KeyOrd.klt_of_kle_of_klt l hp
  | false =>
   simp only [Bool.false_eq_true,if_false,Bool.not_eq_true'] at hp ⊢
   exact KeyOrd.kle_trans l hp
 ·refine h k hk1 (fun t p ht hp=>?_) fun t p ht1 ht2 hp=>?_
  ·have:=h1 t ht
   rw [hp] at this
   exact this
  ·have:=h2 t ht1 ht2
   rw [hp] at this
   exact this
theorem Cr {ky p:Keyed} (h:PB κ false ky p = true):le κ p ky:=by
 unfold PB at h
 show κ.blt (kk κ ky) (kk κ p) = false
 simpa using h
theorem Af {ky p:Keyed} (h:PB κ false ky p = false):κ.klt (kk κ ky) (kk κ p):=by
 unfold PB at h
 show κ.blt (kk κ ky) (kk κ p) = true
 simpa using h
theorem Hw {ky p:Keyed} (h:PB κ true ky p = true):κ.klt (kk κ p) (kk κ ky):=by
 unfold PB at h
 show κ.blt (kk κ p) (kk κ ky) = true
 simpa using h
theorem Dv {ky p:Keyed} (h:PB κ true ky p = false):le κ ky p:=by
 unfold PB at h
 show κ.blt (kk κ p) (kk κ ky) = false
 simpa using h
section
variable {α:Type} {Q:α->SortSt->Prop} {st:SortSt}
theorem Q6 {c:Prop} {_:Decidable c} {t e:StateT SortSt Sem α} (h1:c->wpS (model prog w) A E s t Q st) (h2:¬ c->wpS (model prog w) A E s e Q st):wpS (model prog w) A E s (if c then t else e) Q st:=by
 split
 ·rename_i h; exact h1 h
 ·rename_i h; exact h2 h
theorem J6 {x y:Nat} {t e:StateT SortSt Sem α} (h1:x = y->wpS (model prog w) A E s t Q st) (h2:x ≠ y->wpS (model prog w) A E s e Q st):wpS (model prog w) A E s (if (x == y) = true then t else e) Q st :=
 Q6 (fun h=>h1 (eq_of_beq h)) fun h=>h2 fun z=>h (beq_iff_eq.mpr z)
theorem Ps {c:Prop} {_:Decidable c} {t:StateT SortSt Sem α} {F:Nat->StateT SortSt Sem α} (x:Nat) {y:Nat} (h:∀ g,wpS (model prog w) A E s (F g) Q st) (e:t = F x):wpS (model prog w) A E s (if c then t else F y) Q st:=by
 subst e
 exact Q6 (fun _=>h _) fun _=>h _
theorem Dz {c:Prop} {_:Decidable c} {t:StateT SortSt Sem α} {F:Array Keyed->Nat->StateT SortSt Sem α} {o:Array Keyed} {i:Nat} (R:Array Keyed->Nat->Prop) (h:∀ o i,R o i->wpS (model prog w) A E s (F o i) Q st)
  (hT:(∀ o i,R o i->wpS (model prog w) A E s (F o i) Q st)->c->wpS (model prog w) A E s t Q st) (hE:¬ c->R o i):wpS (model prog w) A E s (if c then t else F o i) Q st:=Q6 (hT h) fun z=>h _ _ (hE z)
end
theorem Mw {α β:Type} {r0:Sem Unit} {el:StateT SortSt Sem Keyed} {x0:Keyed} {c1 c2:Prop} {_:Decidable c1} {_:Decidable c2} {t1 t2:Keyed->StateT SortSt Sem α} {ini:Keyed->SortSt->β} {n:Nat} {f:Nat->β->StateT SortSt Sem (ForInStep β)} {g:β->StateT SortSt Sem α} {Q:α->SortSt->Prop} {st:SortSt}
  (hr:∀ R:Unit->SortSt->Prop,R () st->wpS (model prog w) A E s (liftM r0:StateT SortSt Sem Unit) R st) (he:∀ R:Keyed->SortSt->Prop,R x0 st->wpS (model prog w) A E s el R st) (h1:c1->wpS (model prog w) A E s (t1 x0) Q st) (h2:¬ c1->c2->wpS (model prog w) A E s (t2 x0) Q st)
  (h3:¬ c1->¬ c2->wpS (model prog w) A E s (forIn [0:n] (ini x0 st) f) (fun c st'=>wpS (model prog w) A E s (g c) Q st') st) :
  wpS (model prog w) A E s ((liftM r0:StateT SortSt Sem Unit) >>= fun _=>el >>= fun x=>if c1 then t1 x else if c2 then t2 x else get >>= fun st'=>forIn [0:n] (ini x st') f >>= g) Q st :=
 wpS_bind (hr _ (wpS_bind (he _ (Q6 h1 fun z1=>Q6 (h2 z1) fun z2=>wpS_bind (wpS_get (wpS_bind (h3 z1 z2)))))))
noncomputable def MR (κ:KeyKind) (a b:Array Keyed) (st:SortSt) {β:Type} (c:Option (Array Keyed) × β) (st':SortSt):Prop:=Sm st st'/\∃ r,c.1 = some r/\Rm κ a b r
theorem MR.mk {a b r:Array Keyed} {st st':SortSt} {β:Type} {c:β} (sm:Sm st st') (h:Rm κ a b r):MR κ a b st (some r,c) st':=⟨sm,r,rfl,h⟩
structure LoP (κ:KeyKind) (a b:Array Keyed) (n:Nat) (o:Array Keyed) (i j:Nat):Prop where
 m:ML κ a.toList b.toList o.toList i j
 hi:i + 1 < a.size
 hj:j < b.size
 hn:n<=i + j
theorem LoP.putB {a b o o':Array Keyed} {n i j:Nat} (h:LoP κ a b n o i j) (m:ML κ a.toList b.toList o'.toList i (j + 1)) (e:j + 1 ≠ b.size):LoP κ a b (n + 1) o' i (j + 1):=⟨m,h.hi,Nat.lt_of_le_of_ne h.hj e,Nat.succ_le_succ h.hn⟩
theorem LoP.putA {a b o o':Array Keyed} {n i j:Nat} (h:LoP κ a b n o i j) (m:ML κ a.toList b.toList o'.toList (i + 1) j) (e:i + 1 + 1 ≠ a.size):LoP κ a b (n + 1) o' (i + 1) j:=⟨m,Nat.lt_of_le_of_ne h.hi e,h.hj,by rw [Nat.add_right_comm]; exact Nat.succ_le_succ h.hn⟩
theorem LoP.mono {a b o:Array Keyed} {n n' i j:Nat} (h:LoP κ a b n o i j) (l:n'<=n):LoP κ a b n' o i j:=⟨h.m,h.hi,h.hj,Nat.le_trans l h.hn⟩
noncomputable def zCw (κ:KeyKind) (a b:Array Keyed) (st:SortSt) (n:Nat) (c:Option (Array Keyed) × Array Keyed × Nat × Nat × Nat) (st':SortSt):Prop:=Sm st st'/\∃ o i j mg,c = (none,o,i,j,mg)/\LoP κ a b n o i j
noncomputable def LoI2 (κ:KeyKind) (a b:Array Keyed) (st:SortSt) (n:Nat) (c:Option (Array Keyed) × Array Keyed × Nat × Nat × Nat × Nat) (st':SortSt):Prop:=Sm st st'/\∃ o i j ac bc,c = (none,o,i,j,ac,bc)/\LoP κ a b n o i j
noncomputable def LoI3 (κ:KeyKind) (a b:Array Keyed) (st:SortSt) (n:Nat) (c:Option (Array Keyed) × Array Keyed × Nat × Nat × Nat × Nat × Nat) (st':SortSt):Prop:=Sm st st'/\∃ o i j mg ac bc,c = (none,o,i,j,mg,ac,bc)/\LoP κ a b n o i j
theorem LoI2.mk {a b o:Array Keyed} {st st':SortSt} {n i j ac bc:Nat} (sm:Sm st st') (h:LoP κ a b n o i j):LoI2 κ a b st n (none,o,i,j,ac,bc) st':=⟨sm,_,_,_,_,_,rfl,h⟩
theorem LoI3.mk {a b o:Array Keyed} {st st':SortSt} {n i j mg ac bc:Nat} (sm:Sm st st') (h:LoP κ a b n o i j):LoI3 κ a b st n (none,o,i,j,mg,ac,bc) st':=⟨sm,_,_,_,_,_,_,rfl,h⟩
theorem Hc (C:Cmp prog w A s κ kd) {st:SortSt} {a b:Array Keyed} {Q:Array Keyed->SortSt->Prop} (hk:kindOf st = kd) (P:Pre κ a b)
  (h:∀ r st',Sm st st'->Rm κ a b r->Q r st'):wpS (model prog w) A E s (Eh a b) Q st:=by
 rw [Ia]
 obtain ⟨b0,hb0⟩:=V5 (a:=b) (i:=0) P.nb
 have m0:ML κ a.toList b.toList (#[]:Array Keyed).toList 0 0:=⟨by simp,List.Pairwise.nil,fun x hx=>absurd hx (by simp),fun x hx=>absurd hx (by simp)⟩
 have m1:ML κ a.toList b.toList (#[b0]:Array Keyed).toList 0 1:=by
  have:=P.pushB m0 hb0 (by rw [List.drop_zero]; exact P.first b0 hb0)
  simpa using this
 apply Mw (x0:=b0) (fun R z=>wpS_lift (wpAny_rule ⟨rfl,z⟩)) (fun R z=>C4 hb0 z)
 case h1=>exact fun hb1=>wpS_pure (h _ _ (Sm.refl _) (P.doneB m1 (eq_of_beq hb1)))
 case h2=>exact fun _ ha1=>wpS_pure (h _ _ (Sm.refl _) (P.lastA m1 (eq_of_beq ha1)))
 intro hb1 ha1
 have p1:LoP κ a b 1 #[b0] 0 1:=⟨m1,Nat.lt_of_le_of_ne P.na fun z=>ha1 (beq_iff_eq.mpr z),Nat.lt_of_le_of_ne P.nb fun z=>hb1 (beq_iff_eq.mpr z),Nat.le_refl _⟩
 refine wpS_mono (wpS_forRange (I:=fun x=>zCw κ a b st (x + 1)) (Q:=MR κ a b st) ?st ?en ⟨Sm.refl _,_,_,_,_,rfl,p1⟩) ?po
 case po =>
  rintro ⟨c1,c2⟩ st' ⟨sm,r,e,hr⟩
  cases e
  exact wpS_pure (h r st' sm hr)
 case en =>
  rintro c st' ⟨sm,o,i,j,mg,rfl,p⟩
  obtain ⟨_,h1,h2,h3⟩:=p
  exfalso
  lia
 case st =>
  rintro x c st' _ hx ⟨sm,o,i,j,mg,rfl,p⟩
  refine wpS_bind (wpS_mono (wpS_forRange (I:=fun _=>LoI2 κ a b st (x + 1)) (Q:=fun c st'=>MR κ a b st c st'\/LoI2 κ a b st (x + 1) c st') ?st1 ?en1 (LoI2.mk sm p)) ?po1)
  case en1=>exact fun c st2 z=>.inr z
  case st1 =>
   rintro x2 c st2 _ _ ⟨sm2,o,i',j',ac,bc,rfl,p2⟩
   obtain ⟨bj,hbj⟩:=V5 (a:=b) (i:=j') p2.hj
   obtain ⟨ai,hai⟩:=V5 (a:=a) (i:=i') (Nat.lt_of_succ_lt p2.hi)
   refine wpS_bind (C4 hbj (wpS_bind (C4 hai (wpS_bind (Fm C (sm2.knd hk) (P.kb _ _ hbj) (P.ka _ _ hai) ?_)))))
   refine Q6 (fun hlt=>wpS_bind (C4 hbj ?_)) fun hlt=>wpS_bind (C4 hai ?_)
   ·have m3:=P.pushB p2.m hbj fun z hz=>le_trans (KeyOrd.kle_of_klt hlt) (Di P.sa (ar_get.mp hai) z hz)
    refine J6 (fun e1=>wpS_pure (.inl (MR.mk sm2 (P.doneB m3 e1)))) fun e1=>?_
    have p3:=(p2.putB m3 e1).mono (Nat.le_succ _)
    exact Q6 (fun _=>wpS_pure (.inr (LoI2.mk sm2 p3))) fun _=>wpS_pure (LoI2.mk sm2 p3)
   ·have m3:=P.pushA p2.m hai fun z hz=>le_trans (show le κ ai bj from Bool.eq_false_iff.mpr hlt) (Di P.sb (ar_get.mp hbj) z hz)
    refine J6 (fun e1=>wpS_pure (.inl (MR.mk sm2 (P.lastA m3 e1)))) fun e1=>?_
    have p3:=(p2.putA m3 e1).mono (Nat.le_succ _)
    exact Q6 (fun _=>wpS_pure (.inr (LoI2.mk sm2 p3))) fun _=>wpS_pure (LoI2.mk sm2 p3)
  case po1 =>
   rintro ⟨c1,c2⟩ st2 (⟨sm2,r,e,hr⟩ | ⟨sm2,o2,i2,j2,ac,bc,e,p2⟩)
   ·cases e
    exact wpS_pure (MR.mk sm2 hr)
   ·cases e
    refine wpS_bind (wpS_lift (wpAny_rule ⟨rfl,?_⟩))
    refine wpS_bind (wpS_mono (wpS_forRange (I:=fun x3=>LoI3 κ a b st (x + 1 + x3)) (Q:=fun c st'=>MR κ a b st c st'\/LoI3 κ a b st (x + 1 + 1) c st') ?st2 ?en2 (LoI3.mk sm2 p2)) ?po2)
    case en2 =>
     rintro c st3 ⟨sm3,o',i',j',mg',ac,bc,rfl,p3⟩
     refine .inr (LoI3.mk sm3 (p3.mono ?_))
     have:=P.na
     lia
    case po2 =>
     rintro ⟨c1,c2⟩ st3 (⟨sm3,r,e,hr⟩ | ⟨sm3,o',i',j',mg',ac,bc,e,p3⟩)
     ·cases e
      exact wpS_pure (MR.mk sm3 hr)
     ·cases e
      refine wpS_bind (T4 sm3 fun st4 sm4=>?_)
      exact wpS_pure ⟨sm4,_,_,_,_,rfl,p3⟩
    case st2 =>
     rintro x3 c st3 _ _ ⟨sm3,o3,i3,j3,mg3,ac3,bc3,rfl,p3⟩
     obtain ⟨bj,hbj⟩:=V5 (a:=b) (i:=j3) p3.hj
     have hi3:i3 + (a.size - i3)<=a.size:=by rw [Nat.add_sub_cancel' (Nat.le_of_lt (Nat.lt_of_succ_lt p3.hi))]; exact Nat.le_refl _
     have hj3:=p3.hj
     apply Ps (mg3 - 1) (y:=mg3)
     case e=>exact rfl
     intro g
     refine wpS_bind (T4 sm3 fun st4 sm4=>?_)
     refine wpS_bind (C4 hbj (wpS_bind (Y8 C (sm4.knd hk) (P.kb _ _ hbj) hi3 P.ka (fun u v p q huv _ e1 e2=>j4 P.sa (Nat.add_le_add_left huv _) (ar_get.mp e1) (ar_get.mp e2)) (Nat.sub_pos_of_lt (Nat.lt_of_succ_lt p3.hi)) fun k hk1 k1 k2=>?_)))
     have m4:ML κ a.toList b.toList (o3 ++ a.extract i3 (i3 + k)).toList (i3 + k) j3:=P.extA p3.m fun y hy z hz=>by
      obtain ⟨t,ht,e⟩:=Ce hy
      exact le_trans (Cr (k1 t y ht (ar_get.mpr e))) (Di P.sb (ar_get.mp hbj) z hz)
     have hbz:∀ z ∈ a.toList.drop (i3 + k),le κ bj z:=fun z hz=>by
      obtain ⟨t,ht,e⟩:=Ih hz
      rw [Array.length_toList] at ht
      exact KeyOrd.kle_of_klt (Af (k2 (k + t) z (Nat.le_add_right _ _) (by lia) (by rw [<-Nat.add_assoc]; exact ar_get.mpr e)))
     apply Dz (o:=o3) (i:=i3) (fun o i=>LoP κ a b (x + 1 + x3) o i j3/\∀ z ∈ a.toList.drop i,le κ bj z)
     ·rintro o4 i4 ⟨p4,hbz⟩
      refine wpS_bind (C4 hbj ?_)
      have m5:=P.pushB p4.m hbj hbz
      refine J6 (fun e3=>wpS_pure (.inl (MR.mk sm4 (P.doneB m5 e3)))) fun e3=>?_
      have p5:=p4.putB m5 e3
      generalize o4.push bj = o5 at m5 p5 ⊢
      generalize j3 + 1 = j5 at m5 p5 ⊢
      obtain ⟨ai,hai⟩:=V5 (a:=a) (i:=i4) (Nat.lt_of_succ_lt p5.hi)
      refine wpS_bind (C4 hai (wpS_bind (Y8 C (sm4.knd hk) (P.ka _ _ hai) (by rw [Nat.add_sub_cancel' (Nat.le_of_lt p5.hj)]; exact Nat.le_refl _) P.kb (fun u v p q huv _ e1 e2=>j4 P.sb (Nat.add_le_add_left huv _) (ar_get.mp e1) (ar_get.mp e2)) (Nat.sub_pos_of_lt p5.hj) fun k' hk1' k1' k2'=>?_)))
      have haz:∀ z ∈ b.toList.drop (j5 + k'),le κ ai z:=fun z hz=>by
       obtain ⟨t,ht,e⟩:=Ih hz
       rw [Array.length_toList] at ht
       exact Dv (k2' (k' + t) z (Nat.le_add_right _ _) (by lia) (by rw [<-Nat.add_assoc]; exact ar_get.mpr e))
      apply Dz (o:=o5) (i:=j5) (fun o j=>LoP κ a b (x + 1 + x3 + 1) o i4 j/\∀ z ∈ b.toList.drop j,le κ ai z)
      ·rintro o6 j6 ⟨p6,haz⟩
       refine wpS_bind (C4 hai ?_)
       have m7:=P.pushA p6.m hai haz
       refine J6 (fun e5=>wpS_pure (.inl (MR.mk sm4 (P.lastA m7 e5)))) fun e5=>?_
       have p7:=p6.putA m7 e5
       exact Q6 (fun _=>wpS_pure (.inr (LoI3.mk sm4 (p7.mono (by lia))))) fun _=>wpS_pure (LoI3.mk sm4 (p7.mono (by lia)))
      ·intro hF hk0
       have m6:ML κ a.toList b.toList (o5 ++ b.extract j5 (j5 + k')).toList i4 (j5 + k'):=P.extB m5 fun y hy z hz=>by
        obtain ⟨t,ht,e⟩:=Ce hy
        exact le_trans (KeyOrd.kle_of_klt (Hw (k1' t y ht (ar_get.mpr e)))) (Di P.sa (ar_get.mp hai) z hz)
       have hj5:=p5.hj
       exact J6 (fun e4=>wpS_pure (.inl (MR.mk sm4 (P.doneB m6 e4)))) fun e4=>hF _ _ ⟨⟨m6,p5.hi,by lia,Nat.le_trans p5.hn (by lia)⟩,haz⟩
      ·intro hk0
       have z0:k' = 0:=Nat.eq_zero_of_not_pos hk0
       subst z0
       exact ⟨p5,haz⟩
     ·intro hF hk0
      have hi:=p3.hi
      exact J6 (fun e1=>wpS_pure (.inl (MR.mk sm4 (P.lastA m4 e1)))) fun e1=>J6 (fun e2=>wpS_pure (.inl (MR.mk sm4 (P.doneA m4 e2)))) fun e2=>hF _ _ ⟨⟨m4,by lia,p3.hj,Nat.le_trans p3.hn (by lia)⟩,hbz⟩
     ·intro hk0
      have z0:k = 0:=Nat.eq_zero_of_not_pos hk0
      subst z0
      exact ⟨p3,hbz⟩
end
end TS
namespace TS
open PySem PyProof.Rows
section
variable {prog:Program} {w:World} {A:Around} {E:Value->Shared->Prop} {s:Shared} {κ:KeyKind} {kd:SortKind}
noncomputable def Cj:Array Keyed->Array Keyed->StateT SortSt Sem (Array Keyed):=sortPriv% PySem.Builtin.mergeHi
theorem Ii (a b:Array Keyed):Cj a b = (do
  rule "list.sort.merge-hi"
  let tot:=a.size + b.size
  let dn (o:Array Keyed) (i j:Nat):=a.extract 0 i ++ b.extract 0 j ++ o.reverse
  let fB (o:Array Keyed) (i j:Nat):=b.extract 0 j ++ a.extract 0 i ++ o.reverse
  let mut i:=a.size - 1
  let mut j:=b.size
  let mut o:Array Keyed:=#[<-elem' a i]
  if i == 0 then return dn o i j
  if j == 1 then return fB o i j
  let mut mg:=gallopOf (<-get)
  for _ in [0:tot] do
   let mut ac:=0
   let mut bc:=0
   for _ in [0:tot] do
    let some aw <-lt' (<-elem' b (j - 1)) (<-elem' a (i - 1)) | return dn o i j
    if aw then
     i:=i - 1; o:=o.push (<-elem' a i); ac:=ac + 1; bc:=0
     if i == 0 then return dn o i j
     if ac ≥ mg then break
    else
     j:=j - 1; o:=o.push (<-elem' b j); bc:=bc + 1; ac:=0
     if j == 1 then return fB o i j
     if bc ≥ mg then break
   rule "list.sort.gallop"
   mg:=mg + 1
   for _ in [0:tot] do
    if mg > 1 then mg:=mg - 1
    y8 mg
    let some at_ <-Q9 false (<-elem' b (j - 1)) a 0 i (i - 1) | return dn o i j
    let k:=i - at_
    ac:=k
    if k > 0 then
     o:=o ++ (a.extract at_ i).reverse; i:=at_
     if i == 0 then return dn o i j
    j:=j - 1; o:=o.push (<-elem' b j)
    if j == 1 then return fB o i j
    let some at_ <-Q9 true (<-elem' a (i - 1)) b 0 j (j - 1) | return dn o i j
    let k:=j - at_
    bc:=k
    if k > 0 then
     o:=o ++ (b.extract at_ j).reverse; j:=at_
     if j == 1 then return fB o i j
     if j == 0 then return dn o i j
    i:=i - 1; o:=o.push (<-elem' a i)
    if i == 0 then return dn o i j
    if ac < 7 && bc < 7 then break
   mg:=mg + 1
   y8 mg
  unsupported "internal:list.sort.merge-bound"):=rfl
noncomputable abbrev MHa (κ:KeyKind) (a b o:Array Keyed) (i j:Nat):Prop:=MH κ a.toList b.toList o.toList.reverse i j
section
variable {a b o:Array Keyed} {i j k:Nat} {p q:Keyed}
theorem td1 {l:List Keyed} {i:Nat} {p:Keyed} (hi:1<=i) (h:l[i - 1]? = some p):(l.take i).drop (i - 1) = [p]:=by
 rw [List.drop_take,show i - (i - 1) = 1 by lia]
 exact Qh h
theorem He (a:Array Keyed) (k i:Nat):(a.extract k i).toList = (a.toList.take i).drop k:=by
 rw [Array.toList_extract,List.extract_eq_take_drop,List.drop_take]
theorem De {l:List Keyed} (h:Sor κ l) {i:Nat} {p:Keyed} (hp:l[i - 1]? = some p):∀ z ∈ l.take i,le κ z p:=fun z hz=>by
 obtain ⟨t,h1,_,e⟩:=Lh hz
 exact j4 h (by lia) e hp
theorem Pre.hpA (P:Pre κ a b) (m:MHa κ a b o i j) (hi:1<=i) (hp:a[i - 1]? = some p) (h:∀ z ∈ b.toList.take j,le κ z p):MHa κ a b (o.push p) (i - 1) j:=by
 have h1:=m.addA P.sa (i - 1) (by lia) (by rw [td1 hi (ar_get.mp hp)]; intro y hy; rw [List.mem_singleton.mp hy]; exact h)
 rw [td1 hi (ar_get.mp hp)] at h1
 unfold MHa
 rw [Array.toList_push,List.reverse_append]
 exact h1
theorem Pre.hpB (P:Pre κ a b) (m:MHa κ a b o i j) (hj:1<=j) (hq:b[j - 1]? = some q) (h:∀ z ∈ a.toList.take i,le κ z q):MHa κ a b (o.push q) i (j - 1):=by
 have h1:=m.addB P.sb (j - 1) (by lia) (by rw [td1 hj (ar_get.mp hq)]; intro y hy; rw [List.mem_singleton.mp hy]; exact h)
 rw [td1 hj (ar_get.mp hq)] at h1
 unfold MHa
 rw [Array.toList_push,List.reverse_append]
 exact h1
theorem Pre.heA (P:Pre κ a b) (m:MHa κ a b o i j) (hk:k<=i) (h:∀ y ∈ (a.toList.take i).drop k,∀ z ∈ b.toList.take j,le κ z y):MHa κ a b (o ++ (a.extract k i).reverse) k j:=by
 unfold MHa
 rw [Array.toList_append,Array.toList_reverse,List.reverse_append,List.reverse_reverse,He]
 exact m.addA P.sa k hk h
theorem Pre.heB (P:Pre κ a b) (m:MHa κ a b o i j) (hk:k<=j) (h:∀ y ∈ (b.toList.take j).drop k,∀ z ∈ a.toList.take i,le κ z y):MHa κ a b (o ++ (b.extract k j).reverse) i k:=by
 unfold MHa
 rw [Array.toList_append,Array.toList_reverse,List.reverse_append,List.reverse_reverse,He]
 exact m.addB P.sb k hk h
theorem Pre.hdA (P:Pre κ a b) (m:MHa κ a b o i j) (hi:i = 0):Rm κ a b (a.extract 0 i ++ b.extract 0 j ++ o.reverse):=by
 unfold Rm
 rw [Array.toList_append,Array.toList_append,Array.toList_reverse,Y5,Y5]
 refine m.endA P.sa P.sb fun y hy z _=>?_
 rw [hi,List.take_zero] at hy
 exact absurd hy (by simp)
theorem Pre.hdB (P:Pre κ a b) (m:MHa κ a b o i j) (hj:j = 0):Rm κ a b (a.extract 0 i ++ b.extract 0 j ++ o.reverse):=by
 unfold Rm
 rw [Array.toList_append,Array.toList_append,Array.toList_reverse,Y5,Y5]
 refine m.endA P.sa P.sb fun y _ z hz=>?_
 rw [hj,List.take_zero] at hz
 exact absurd hz (by simp)
theorem Pre.hfB (P:Pre κ a b) (m:MHa κ a b o i j) (hj:j = 1):Rm κ a b (b.extract 0 j ++ a.extract 0 i ++ o.reverse):=by
 unfold Rm
 rw [Array.toList_append,Array.toList_append,Array.toList_reverse,Y5,Y5]
 refine m.endB P.sa P.sb fun y hy z hz=>?_
 obtain ⟨t,h1,_,e⟩:=Lh hy
 have e0:t = 0:=by lia
 rw [e0] at e
 exact P.first y (ar_get.mpr e) z (List.mem_of_mem_take hz)
end
structure HiP (κ:KeyKind) (a b:Array Keyed) (n:Nat) (o:Array Keyed) (i j:Nat):Prop where
 m:MHa κ a b o i j
 hi:1<=i
 hj:2<=j
 ia:i<=a.size
 jb:j<=b.size
 hn:n + i + j<=a.size + b.size
theorem HiP.putA {a b o o':Array Keyed} {n i j:Nat} (h:HiP κ a b n o i j) (m:MHa κ a b o' (i - 1) j) (e:i - 1 ≠ 0):HiP κ a b (n + 1) o' (i - 1) j:=by
 obtain ⟨_,h1,h2,h3,h4,h5⟩:=h
 exact ⟨m,by lia,h2,by lia,h4,by lia⟩
theorem HiP.putB {a b o o':Array Keyed} {n i j:Nat} (h:HiP κ a b n o i j) (m:MHa κ a b o' i (j - 1)) (e:j - 1 ≠ 1):HiP κ a b (n + 1) o' i (j - 1):=by
 obtain ⟨_,h1,h2,h3,h4,h5⟩:=h
 exact ⟨m,h1,by lia,h3,by lia,by lia⟩
theorem HiP.mono {a b o:Array Keyed} {n n' i j:Nat} (h:HiP κ a b n o i j) (l:n'<=n):HiP κ a b n' o i j:=⟨h.m,h.hi,h.hj,h.ia,h.jb,Nat.le_trans (Nat.add_le_add_right (Nat.add_le_add_right l _) _) h.hn⟩
theorem HiP.la {a b o:Array Keyed} {n i j:Nat} (h:HiP κ a b n o i j):i - 1 < a.size:=Nat.lt_of_lt_of_le (Nat.sub_lt h.hi (Nat.zero_lt_one)) h.ia
theorem HiP.lb {a b o:Array Keyed} {n i j:Nat} (h:HiP κ a b n o i j):j - 1 < b.size:=Nat.lt_of_lt_of_le (Nat.sub_lt (Nat.lt_of_succ_lt h.hj) (Nat.zero_lt_one)) h.jb
theorem HiP.hj1 {a b o:Array Keyed} {n i j:Nat} (h:HiP κ a b n o i j):1<=j:=Nat.le_of_succ_le h.hj
noncomputable def zCq (κ:KeyKind) (a b:Array Keyed) (st:SortSt) (n:Nat) (c:Option (Array Keyed) × Nat × Nat × Array Keyed × Nat) (st':SortSt):Prop:=Sm st st'/\∃ i j o mg,c = (none,i,j,o,mg)/\HiP κ a b n o i j
noncomputable def HiI2 (κ:KeyKind) (a b:Array Keyed) (st:SortSt) (n:Nat) (c:Option (Array Keyed) × Nat × Nat × Array Keyed × Nat × Nat) (st':SortSt):Prop:=Sm st st'/\∃ i j o ac bc,c = (none,i,j,o,ac,bc)/\HiP κ a b n o i j
noncomputable def HiI3 (κ:KeyKind) (a b:Array Keyed) (st:SortSt) (n:Nat) (c:Option (Array Keyed) × Nat × Nat × Array Keyed × Nat × Nat × Nat) (st':SortSt):Prop:=Sm st st'/\∃ i j o mg ac bc,c = (none,i,j,o,mg,ac,bc)/\HiP κ a b n o i j
theorem HiI2.mk {a b o:Array Keyed} {st st':SortSt} {n i j ac bc:Nat} (sm:Sm st st') (h:HiP κ a b n o i j):HiI2 κ a b st n (none,i,j,o,ac,bc) st':=⟨sm,_,_,_,_,_,rfl,h⟩
theorem HiI3.mk {a b o:Array Keyed} {st st':SortSt} {n i j mg ac bc:Nat} (sm:Sm st st') (h:HiP κ a b n o i j):HiI3 κ a b st n (none,i,j,o,mg,ac,bc) st':=⟨sm,_,_,_,_,_,_,rfl,h⟩
theorem Hy (C:Cmp prog w A s κ kd) {st:SortSt} {a b:Array Keyed} {Q:Array Keyed->SortSt->Prop} (hk:kindOf st = kd) (P:Pre κ a b)
  (h:∀ r st',Sm st st'->Rm κ a b r->Q r st'):wpS (model prog w) A E s (Cj a b) Q st:=by
 rw [Ii]
 have hna:=P.na
 have hnb:=P.nb
 obtain ⟨b0,hb0⟩:=V5 (a:=a) (i:=a.size - 1) (Nat.sub_lt hna Nat.zero_lt_one)
 have m0:MHa κ a b (#[]:Array Keyed) a.size b.size:=⟨by simp,List.Pairwise.nil,fun x hx=>absurd hx (by simp),fun x hx=>absurd hx (by simp)⟩
 have m1:MHa κ a b (#[b0]:Array Keyed) (a.size - 1) b.size:=by
  have:=P.hpA m0 hna hb0 (fun z hz=>P.last b0 hb0 z (List.mem_of_mem_take hz))
  simpa using this
 apply Mw (x0:=b0) (fun R z=>wpS_lift (wpAny_rule ⟨rfl,z⟩)) (fun R z=>C4 hb0 z)
 case h1=>exact fun ha1=>wpS_pure (h _ _ (Sm.refl _) (P.hdA m1 (eq_of_beq ha1)))
 case h2=>exact fun _ hb1=>wpS_pure (h _ _ (Sm.refl _) (P.hfB m1 (eq_of_beq hb1)))
 intro ha1 hb1
 have ha1:¬ a.size - 1 = 0:=fun z=>ha1 (beq_iff_eq.mpr z)
 have hb1:¬ b.size = 1:=fun z=>hb1 (beq_iff_eq.mpr z)
 have p1:HiP κ a b 1 #[b0] (a.size - 1) b.size:=⟨m1,by lia,by lia,by lia,by lia,by lia⟩
 refine wpS_mono (wpS_forRange (I:=fun x=>zCq κ a b st (x + 1)) (Q:=MR κ a b st) ?st ?en ⟨Sm.refl _,_,_,_,_,rfl,p1⟩) ?po
 case po =>
  rintro ⟨c1,c2⟩ st' ⟨sm,r,e,hr⟩
  cases e
  exact wpS_pure (h r st' sm hr)
 case en =>
  rintro c st' ⟨sm,i,j,o,mg,rfl,p⟩
  obtain ⟨_,h1,h2,_,_,h3⟩:=p
  exfalso
  lia
 case st =>
  rintro x c st' _ hx ⟨sm,i,j,o,mg,rfl,p⟩
  refine wpS_bind (wpS_mono (wpS_forRange (I:=fun _=>HiI2 κ a b st (x + 1)) (Q:=fun c st'=>MR κ a b st c st'\/HiI2 κ a b st (x + 1) c st') ?st1 ?en1 (HiI2.mk sm p)) ?po1)
  case en1=>exact fun c st2 z=>.inr z
  case st1 =>
   rintro x2 c st2 _ _ ⟨sm2,i',j',o,ac,bc,rfl,p2⟩
   obtain ⟨bj,hbj⟩:=V5 (a:=b) (i:=j' - 1) p2.lb
   obtain ⟨ai,hai⟩:=V5 (a:=a) (i:=i' - 1) p2.la
   refine wpS_bind (C4 hbj (wpS_bind (C4 hai (wpS_bind (Fm C (sm2.knd hk) (P.kb _ _ hbj) (P.ka _ _ hai) ?_)))))
   refine Q6 (fun hlt=>wpS_bind (C4 hai ?_)) fun hlt=>wpS_bind (C4 hbj ?_)
   ·have m3:=P.hpA p2.m p2.hi hai fun z hz=>le_trans (De P.sb (ar_get.mp hbj) z hz) (KeyOrd.kle_of_klt hlt)
    refine J6 (fun e1=>wpS_pure (.inl (MR.mk sm2 (P.hdA m3 e1)))) fun e1=>?_
    have p3:=(p2.putA m3 e1).mono (Nat.le_succ _)
    exact Q6 (fun _=>wpS_pure (.inr (HiI2.mk sm2 p3))) fun _=>wpS_pure (HiI2.mk sm2 p3)
   ·have m3:=P.hpB p2.m p2.hj1 hbj fun z hz=>le_trans (De P.sa (ar_get.mp hai) z hz) (show le κ ai bj from Bool.eq_false_iff.mpr hlt)
    refine J6 (fun e1=>wpS_pure (.inl (MR.mk sm2 (P.hfB m3 e1)))) fun e1=>?_
    have p3:=(p2.putB m3 e1).mono (Nat.le_succ _)
    exact Q6 (fun _=>wpS_pure (.inr (HiI2.mk sm2 p3))) fun _=>wpS_pure (HiI2.mk sm2 p3)
  case po1 =>
   rintro ⟨c1,c2⟩ st2 (⟨sm2,r,e,hr⟩ | ⟨sm2,i2,j2,o2,ac,bc,e,p2⟩)
   ·cases e
    exact wpS_pure (MR.mk sm2 hr)
   ·cases e
    refine wpS_bind (wpS_lift (wpAny_rule ⟨rfl,?_⟩))
    refine wpS_bind (wpS_mono (wpS_forRange (I:=fun x3=>HiI3 κ a b st (x + 1 + x3)) (Q:=fun c st'=>MR κ a b st c st'\/HiI3 κ a b st (x + 1 + 1) c st') ?st2 ?en2 (HiI3.mk sm2 p2)) ?po2)
    case en2 =>
     rintro c st3 ⟨sm3,i',j',o',mg',ac,bc,rfl,p3⟩
     exact .inr (HiI3.mk sm3 (p3.mono (by lia)))
    case po2 =>
     rintro ⟨c1,c2⟩ st3 (⟨sm3,r,e,hr⟩ | ⟨sm3,i',j',o',mg',ac,bc,e,p3⟩)
     ·cases e
      exact wpS_pure (MR.mk sm3 hr)
     ·cases e
      refine wpS_bind (T4 sm3 fun st4 sm4=>?_)
      exact wpS_pure ⟨sm4,_,_,_,_,rfl,p3⟩
    case st2 =>
     rintro x3 c st3 _ _ ⟨sm3,i3,j3,o3,mg3,ac3,bc3,rfl,p3⟩
     obtain ⟨bj,hbj⟩:=V5 (a:=b) (i:=j3 - 1) p3.lb
     apply Ps (mg3 - 1) (y:=mg3)
     case e=>exact rfl
     intro g
     refine wpS_bind (T4 sm3 fun st4 sm4=>?_)
     refine wpS_bind (C4 hbj (wpS_bind (Y8 C (sm4.knd hk) (P.kb _ _ hbj) (by rw [Nat.zero_add]; exact p3.ia) P.ka (fun u v p q huv _ e1 e2=>j4 P.sa (Nat.add_le_add_left huv _) (ar_get.mp e1) (ar_get.mp e2)) (Nat.sub_lt p3.hi Nat.zero_lt_one) fun k hk1 k1 k2=>?_)))
     dsimp only
     have m4:MHa κ a b (o3 ++ (a.extract k i3).reverse) k j3:=P.heA p3.m hk1 fun y hy z hz=>by
      obtain ⟨t,ht1,ht2,e⟩:=Tr hy
      exact le_trans (De P.sb (ar_get.mp hbj) z hz) (KeyOrd.kle_of_klt (Af (k2 t y ht1 ht2 (by rw [Nat.zero_add]; exact ar_get.mpr e))))
     have hbz:∀ z ∈ a.toList.take k,le κ z bj:=fun z hz=>by
      obtain ⟨t,ht,_,e⟩:=Lh hz
      exact Cr (k1 t z ht (by rw [Nat.zero_add]; exact ar_get.mpr e))
     generalize hd:i3 - k = d
     apply Dz (o:=o3) (i:=i3) (fun o i=>HiP κ a b (x + 1 + x3) o i j3/\∀ z ∈ a.toList.take i,le κ z bj)
     ·rintro o4 i4 ⟨p4,hbz⟩
      refine wpS_bind (C4 hbj ?_)
      have m5:=P.hpB p4.m p4.hj1 hbj hbz
      refine J6 (fun e3=>wpS_pure (.inl (MR.mk sm4 (P.hfB m5 e3)))) fun e3=>?_
      have p5:=p4.putB m5 e3
      generalize o4.push bj = o5 at m5 p5 ⊢
      generalize j3 - 1 = j5 at m5 p5 ⊢
      obtain ⟨ai,hai⟩:=V5 (a:=a) (i:=i4 - 1) p5.la
      refine wpS_bind (C4 hai (wpS_bind (Y8 C (sm4.knd hk) (P.ka _ _ hai) (by rw [Nat.zero_add]; exact p5.jb) P.kb (fun u v p q huv _ e1 e2=>j4 P.sb (Nat.add_le_add_left huv _) (ar_get.mp e1) (ar_get.mp e2)) (Nat.sub_lt p5.hj1 Nat.zero_lt_one) fun k' hk1' k1' k2'=>?_)))
      dsimp only
      have haz:∀ z ∈ b.toList.take k',le κ z ai:=fun z hz=>by
       obtain ⟨t,ht,_,e⟩:=Lh hz
       exact KeyOrd.kle_of_klt (Hw (k1' t z ht (by rw [Nat.zero_add]; exact ar_get.mpr e)))
      generalize hd':j5 - k' = d'
      apply Dz (o:=o5) (i:=j5) (fun o j=>HiP κ a b (x + 1 + x3 + 1) o i4 j/\∀ z ∈ b.toList.take j,le κ z ai)
      ·rintro o6 j6 ⟨p6,haz⟩
       refine wpS_bind (C4 hai ?_)
       have m7:=P.hpA p6.m p6.hi hai haz
       refine J6 (fun e5=>wpS_pure (.inl (MR.mk sm4 (P.hdA m7 e5)))) fun e5=>?_
       have p7:=p6.putA m7 e5
       exact Q6 (fun _=>wpS_pure (.inr (HiI3.mk sm4 (p7.mono (by lia))))) fun _=>wpS_pure (HiI3.mk sm4 (p7.mono (by lia)))
      ·intro hF hk0
       have m6:MHa κ a b (o5 ++ (b.extract k' j5).reverse) i4 k':=P.heB m5 hk1' fun y hy z hz=>by
        obtain ⟨t,ht1,ht2,e⟩:=Tr hy
        exact le_trans (De P.sa (ar_get.mp hai) z hz) (Dv (k2' t y ht1 ht2 (by rw [Nat.zero_add]; exact ar_get.mpr e)))
       obtain ⟨_,h1,h2,h3,h4,h5⟩:=p5
       exact J6 (fun e4=>wpS_pure (.inl (MR.mk sm4 (P.hfB m6 e4)))) fun e4=>J6 (fun e5=>wpS_pure (.inl (MR.mk sm4 (P.hdB m6 e5)))) fun e5=>hF _ _ ⟨⟨m6,h1,by lia,h3,Nat.le_trans hk1' h4,by lia⟩,haz⟩
      ·intro hk0
       have z0:k' = j5:=Nat.le_antisymm hk1' (Nat.le_of_sub_eq_zero (hd'.trans (Nat.eq_zero_of_not_pos hk0)))
       subst z0
       exact ⟨p5,haz⟩
     ·intro hF hk0
      obtain ⟨_,h1,h2,h3,h4,h5⟩:=p3
      exact J6 (fun e1=>wpS_pure (.inl (MR.mk sm4 (P.hdA m4 e1)))) fun e1=>hF _ _ ⟨⟨m4,by lia,h2,Nat.le_trans hk1 h3,h4,by lia⟩,hbz⟩
     ·intro hk0
      have z0:k = i3:=Nat.le_antisymm hk1 (Nat.le_of_sub_eq_zero (hd.trans (Nat.eq_zero_of_not_pos hk0)))
      subst z0
      exact ⟨p3,hbz⟩
end
end TS
namespace TS
open PySem PyProof.Rows
section
variable {prog:Program} {w:World} {A:Around} {E:Value->Shared->Prop} {s:Shared} {κ:KeyKind} {kd:SortKind}
noncomputable def seg (l:List Keyed) (lo n:Nat):List Keyed:=(l.drop lo).take n
theorem My (m:List Keyed) (lo:Nat):∀ (n:Nat) (a:Array Keyed),lo + n + m.length<=a.size ->
  ((m.zipIdx n).foldl (fun a (x:Keyed × Nat)=>a.setIfInBounds (lo + x.2) x.1) a).size = a.size /\
  ∀ t:Nat,((m.zipIdx n).foldl (fun a (x:Keyed × Nat)=>a.setIfInBounds (lo + x.2) x.1) a)[t]? = if lo + n<=t/\t < lo + n + m.length then m[t - (lo + n)]? else a[t]?:=by
 induction m with
 | nil =>
  intro n a h
  refine ⟨rfl,fun t=>?_⟩
  rw [if_neg (by simp only [List.length_nil]; omega)]
  rfl
 | cons p m ih =>
  intro n a h
  rw [List.length_cons] at h
  rw [List.zipIdx_cons,List.foldl_cons]
  obtain ⟨i1,i2⟩:=ih (n + 1) (a.setIfInBounds (lo + n) p) (by rw [Array.size_setIfInBounds]; omega)
  refine ⟨i1.trans Array.size_setIfInBounds,fun t=>?_⟩
  rw [i2 t,List.length_cons]
  by_cases h1:lo + n = t
  ·subst h1
   rw [if_neg (by omega),if_pos (by omega),Array.getElem?_setIfInBounds_self_of_lt (by omega),Nat.sub_self]
   rfl
  ·by_cases h2:lo + (n + 1)<=t/\t < lo + (n + 1) + m.length
   ·rw [if_pos h2,if_pos (by omega),show t - (lo + n) = (t - (lo + (n + 1))) + 1 by omega,List.getElem?_cons_succ]
   ·rw [if_neg h2,if_neg (by omega),Array.getElem?_setIfInBounds_ne h1]
theorem Bf (m:List Keyed) (lo:Nat) (a:Array Keyed) (h:lo + m.length<=a.size) :
  (m.zipIdx.foldl (fun a (x:Keyed × Nat)=>a.setIfInBounds (lo + x.2) x.1) a).toList = a.toList.take lo ++ m ++ a.toList.drop (lo + m.length):=by
 obtain ⟨h1,h2⟩:=My m lo 0 a (by omega)
 refine List.ext_getElem? fun t=>?_
 rw [Array.getElem?_toList,h2 t]
 have hl:(a.toList.take lo).length = lo:=by rw [List.length_take,Array.length_toList]; omega
 by_cases c1:t < lo
 ·rw [if_neg (by omega),List.append_assoc,List.getElem?_append_left (by omega),List.getElem?_take_of_lt c1,Array.getElem?_toList]
 ·by_cases c2:t < lo + m.length
  ·rw [if_pos (by omega),List.getElem?_append_left (by rw [List.length_append]; omega),List.getElem?_append_right (by omega),hl]
   rfl
  ·rw [if_neg (by omega),List.getElem?_append_right (by rw [List.length_append]; omega),List.length_append,hl,List.getElem?_drop,Array.getElem?_toList]
   congr 1
   omega
theorem Of (l:List Keyed) (lo n:Nat):l = l.take lo ++ seg l lo n ++ l.drop (lo + n):=by
 unfold seg
 rw [List.append_assoc,<-List.drop_drop,List.take_append_drop,List.take_append_drop]
theorem Ib (l:List Keyed) (lo n m:Nat):seg l lo (n + m) = seg l lo n ++ seg l (lo + n) m:=by
 unfold seg
 rw [List.take_add,List.drop_drop]
structure Part (κ:KeyKind) (l l':List Keyed) (lo n:Nat):Prop where
 perm:l'.Perm l
 front:l'.take lo = l.take lo
 back:l'.drop (lo + n) = l.drop (lo + n)
theorem Part.refl (l:List Keyed) (lo n:Nat):Part κ l l lo n:=⟨List.Perm.refl _,rfl,rfl⟩
theorem Part.seg_front {l l':List Keyed} {lo n:Nat} (h:Part κ l l' lo n) {u m:Nat} (hu:u + m<=lo):seg l' u m = seg l u m:=by
 have:∀ x:List Keyed,seg x u m = ((x.take lo).drop u).take m:=fun x=>by
  unfold seg
  rw [List.drop_take,List.take_take,Nat.min_eq_left (by omega)]
 rw [this,this,h.front]
theorem Part.seg_back {l l':List Keyed} {lo n:Nat} (h:Part κ l l' lo n) {u m:Nat} (hu:lo + n<=u):seg l' u m = seg l u m:=by
 have:∀ x:List Keyed,seg x u m = ((x.drop (lo + n)).drop (u - (lo + n))).take m:=fun x=>by
  unfold seg
  rw [List.drop_drop,show lo + n + (u - (lo + n)) = u by omega]
 rw [this,this,h.back]
theorem Part.of {l z:List Keyed} {lo n:Nat} (hz:z.Perm (seg l lo n)) (hl:lo + n<=l.length):Part κ l (l.take lo ++ z ++ l.drop (lo + n)) lo n/\seg (l.take lo ++ z ++ l.drop (lo + n)) lo n = z:=by
 have h1:(l.take lo).length = lo:=by rw [List.length_take]; omega
 have h2:z.length = n:=by
  rw [hz.length_eq]
  unfold seg
  rw [List.length_take,List.length_drop]
  omega
 refine ⟨⟨?_,?_,?_⟩,?_⟩
 ·conv=>rhs; rw [Of l lo n]
  exact List.Perm.append_right _ (List.Perm.append_left _ hz)
 ·rw [List.append_assoc,List.take_append_of_le_length (by omega),List.take_of_length_le (by omega)]
 ·rw [List.drop_append,List.drop_eq_nil_of_le (by rw [List.length_append]; omega),List.nil_append,List.length_append,h1,h2,Nat.sub_self,List.drop_zero]
 ·unfold seg
  rw [List.append_assoc,List.drop_append,List.drop_eq_nil_of_le (by omega),List.nil_append,h1,Nat.sub_self,List.drop_zero,List.take_append_of_le_length (by omega),List.take_of_length_le (by omega)]
structure St (κ:KeyKind) (kd:SortKind) (a₀:Array Keyed) (st:SortSt):Prop where
 perm:(arrOf st).toList.Perm a₀.toList
 kind:kindOf st = kd
 failed:failedOf st = none
theorem St.size {a₀:Array Keyed} {st:SortSt} (h:St κ kd a₀ st):(arrOf st).size = a₀.size:=by
 have:=h.perm.length_eq
 simpa using this
theorem St.has {a₀:Array Keyed} {st:SortSt} (h:St κ kd a₀ st) (h0:KeysOf κ a₀) (i:Nat) (p:Keyed) (e:(arrOf st)[i]? = some p):Has κ p :=
 h0 p (h.perm.mem_iff.mp (List.mem_of_getElem? (ar_get.mp e)))
theorem O0 {l:List Keyed} {lo n t:Nat} (ht:t < n):(seg l lo n)[t]? = l[lo + t]?:=by
 unfold seg
 rw [List.getElem?_take_of_lt ht,List.getElem?_drop]
theorem Ig (i:Nat):mergeAt' i = (do
  let u <-get
  let (some (sa,na,pw),some (sb,nb,_)):=((pendingOf u)[i]?,(pendingOf u)[i + 1]?) | unsupported "internal:list.sort.pending"
  set (setPending u (((pendingOf u).setIfInBounds i (sa,na + nb,pw)).eraseIdxIfInBounds (i + 1)))
  let some k <-Q9 false (<-elem' (arrOf u) sb) (arrOf u) sa na 0 | return false
  let (sa,na):=(sa + k,na - k)
  if na == 0 then return true
  let some nb <-Q9 true (<-elem' (arrOf u) (sa + na - 1)) (arrOf u) sb nb (nb - 1) | return false
  if nb == 0 then return true
  let x:=(arrOf u).extract sa sb
  let y:=(arrOf u).extract sb (sb + nb)
  let mm <-if na<=nb then Eh x y else Cj x y
  modify fun v=>setArr v (mm.toList.zipIdx.foldl (fun a (z:Keyed × Nat)=>a.setIfInBounds (sa + z.2) z.1) (arrOf v))
  return (failedOf (<-get)).isNone):=rfl
theorem Vm {st st2:SortSt} {Q:PUnit->SortSt->Prop} (h:Q ⟨⟩ st2):wpS (model prog w) A E s (set st2:StateT SortSt Sem PUnit) Q st:=by
 unfold wpS; rw [StateT.run_set]; exact wpAny_pure ⟨rfl,h⟩
theorem Im (C:Cmp prog w A s κ kd) {a₀:Array Keyed} (h0:KeysOf κ a₀) {st:SortSt} {i sa na pw sb nb pw2:Nat} {Q:Bool->SortSt->Prop} (hS:St κ kd a₀ st)
  (hi:(pendingOf st)[i]? = some (sa,na,pw)) (hj:(pendingOf st)[i + 1]? = some (sb,nb,pw2)) (hsb:sb = sa + na) (hsz:sb + nb<=a₀.size) (hna:1<=na) (hnb:1<=nb)
  (sx:Sor κ (seg (arrOf st).toList sa na)) (sy:Sor κ (seg (arrOf st).toList sb nb))
  (h:∀ st',St κ kd a₀ st'->Part κ (arrOf st).toList (arrOf st').toList sa (na + nb)->Sor κ (seg (arrOf st').toList sa (na + nb)) ->
   pendingOf st' = ((pendingOf st).setIfInBounds i (sa,na + nb,pw)).eraseIdxIfInBounds (i + 1)->Q true st'):wpS (model prog w) A E s (mergeAt' i) Q st:=by
 subst hsb
 have hL:(arrOf st).toList.length = a₀.size:=by rw [Array.length_toList]; exact hS.size
 have hsz':=hS.size
 rw [Ig]
 refine wpS_bind (wpS_get ?_)
 rw [hi,hj]
 dsimp only
 refine wpS_bind (Vm ?_)
 obtain ⟨b0,hb0⟩:=V5 (a:=arrOf st) (i:=sa + na) (by omega)
 have sxl:∀ u v p q,u<=v->v < na->(arrOf st)[sa + u]? = some p->(arrOf st)[sa + v]? = some q->le κ p q:=fun u v p q huv hv e1 e2 =>
  j4 sx huv (by rw [O0 (by omega)]; exact ar_get.mp e1) (by rw [O0 hv]; exact ar_get.mp e2)
 have syl:∀ u v p q,u<=v->v < nb->(arrOf st)[sa + na + u]? = some p->(arrOf st)[sa + na + v]? = some q->le κ p q:=fun u v p q huv hv e1 e2 =>
  j4 sy huv (by rw [O0 (by omega)]; exact ar_get.mp e1) (by rw [O0 hv]; exact ar_get.mp e2)
 refine wpS_bind (C4 hb0 (wpS_bind (Y8 C hS.kind (hS.has h0 _ _ hb0) (by omega) (hS.has h0) sxl (by omega) fun k hk1 k1 k2=>?_)))
 dsimp only
 have b0y:∀ z ∈ seg (arrOf st).toList (sa + na) nb,le κ b0 z:=fun z hz=>by
  obtain ⟨t,ht,e⟩:=Ce hz
  exact syl 0 t b0 z (by omega) ht hb0 (ar_get.mpr e)
 have xk:∀ x ∈ (seg (arrOf st).toList sa na).take k,le κ x b0:=fun x hx=>by
  obtain ⟨t,ht,ht2,e⟩:=Lh hx
  unfold seg at ht2
  rw [List.length_take] at ht2
  rw [O0 (by omega)] at e
  exact Cr (k1 t x ht (ar_get.mpr e))
 have kx:∀ x ∈ (seg (arrOf st).toList sa na).drop k,le κ b0 x:=fun x hx=>by
  obtain ⟨t,ht,e⟩:=Ih hx
  unfold seg at ht
  rw [List.length_take] at ht
  rw [O0 (by omega)] at e
  exact KeyOrd.kle_of_klt (Af (k2 (k + t) x (by omega) (by omega) (ar_get.mpr e)))
 have S1:St κ kd a₀ (setPending st (((pendingOf st).setIfInBounds i (sa,na + nb,pw)).eraseIdxIfInBounds (i + 1))):=⟨hS.perm,hS.kind,hS.failed⟩
 by_cases hk0:na - k = 0
 ·rw [if_pos (by simpa using hk0)]
  have hkk:k = na:=by omega
  refine wpS_pure (h _ S1 (Part.refl _ _ _) ?_ rfl)
  show Sor κ (seg (arrOf st).toList sa (na + nb))
  rw [Ib]
  refine List.pairwise_append.mpr ⟨sx,sy,fun x hx y hy=>le_trans (xk x ?_) (b0y y hy)⟩
  rw [List.take_of_length_le (by unfold seg; rw [List.length_take]; omega)]
  exact hx
 rw [if_neg (by simpa using hk0)]
 obtain ⟨al,hal⟩:=V5 (a:=arrOf st) (i:=sa + k + (na - k) - 1) (by omega)
 refine wpS_bind (C4 hal (wpS_bind (Y8 C S1.kind (hS.has h0 _ _ hal) (by omega) (hS.has h0) syl (by omega) fun k' hk1' k1' k2'=>?_)))
 dsimp only
 have hal':(arrOf st)[sa + (na - 1)]? = some al:=by rw [show sa + (na - 1) = sa + k + (na - k) - 1 by omega]; exact hal
 have xal:∀ x ∈ seg (arrOf st).toList sa na,le κ x al:=fun x hx=>by
  obtain ⟨t,ht,e⟩:=Ce hx
  exact sxl t (na - 1) x al (by omega) (by omega) (ar_get.mpr e) hal'
 have yk:∀ y ∈ (seg (arrOf st).toList (sa + na) nb).take k',le κ y al:=fun y hy=>by
  obtain ⟨t,ht,ht2,e⟩:=Lh hy
  unfold seg at ht2
  rw [List.length_take] at ht2
  rw [O0 (by omega)] at e
  exact KeyOrd.kle_of_klt (Hw (k1' t y ht (ar_get.mpr e)))
 have ky:∀ y ∈ (seg (arrOf st).toList (sa + na) nb).drop k',le κ al y:=fun y hy=>by
  obtain ⟨t,ht,e⟩:=Ih hy
  unfold seg at ht
  rw [List.length_take] at ht
  rw [O0 (by omega)] at e
  exact Dv (k2' (k' + t) y (by omega) (by omega) (ar_get.mpr e))
 by_cases hk0':k' = 0
 ·rw [if_pos (by simpa using hk0')]
  refine wpS_pure (h _ S1 (Part.refl _ _ _) ?_ rfl)
  show Sor κ (seg (arrOf st).toList sa (na + nb))
  rw [Ib]
  refine List.pairwise_append.mpr ⟨sx,sy,fun x hx y hy=>le_trans (xal x hx) (ky y ?_)⟩
  rw [hk0',List.drop_zero]
  exact hy
 rw [if_neg (by simpa using hk0')]
 have ex:((arrOf st).extract (sa + k) (sa + na)).toList = (seg (arrOf st).toList sa na).drop k:=by
  rw [He]
  unfold seg
  rw [List.drop_take,List.drop_take,List.drop_drop]
  congr 1
  omega
 have ey:((arrOf st).extract (sa + na) (sa + na + k')).toList = (seg (arrOf st).toList (sa + na) nb).take k':=by
  rw [Dc]
  unfold seg
  rw [List.take_take,Nat.min_eq_left hk1']
 have P:Pre κ ((arrOf st).extract (sa + k) (sa + na)) ((arrOf st).extract (sa + na) (sa + na + k')):=by
  refine ⟨by rw [ex]; exact sx.sublist (List.drop_sublist _ _),by rw [ey]; exact sy.sublist (List.take_sublist _ _),fun t p e=>?_,fun t p e=>?_,?_,?_,fun q e z hz=>?_,fun p e z hz=>?_⟩
  ·have m:=List.mem_of_getElem? (ar_get.mp e)
   rw [ex] at m
   obtain ⟨u,_,e2⟩:=Ce (List.mem_of_mem_drop m)
   exact hS.has h0 _ p (ar_get.mpr e2)
  ·have m:=List.mem_of_getElem? (ar_get.mp e)
   rw [ey] at m
   obtain ⟨u,_,e2⟩:=Ce (List.mem_of_mem_take m)
   exact hS.has h0 _ p (ar_get.mpr e2)
  ·rw [Array.size_extract]; omega
  ·rw [Array.size_extract]; omega
  ·have m:=ar_get.mp e
   rw [ey,List.getElem?_take_of_lt (by omega),O0 (by omega)] at m
   have:q = b0:=by
    have:=ar_get.mp hb0
    rw [Nat.add_zero,this] at m
    exact (Option.some.inj m).symm
   subst this
   rw [ex] at hz
   exact kx z hz
  ·have m:=ar_get.mp e
   rw [ex,Array.size_extract,List.getElem?_drop,O0 (by omega)] at m
   have:p = al:=by
    have q:=ar_get.mp hal'
    rw [show k + (min (sa + na) (arrOf st).size - (sa + k) - 1) = na - 1 by omega,q] at m
    exact (Option.some.inj m).symm
   subst this
   rw [ey] at hz
   exact yk z hz
 have fin:∀ (r:Array Keyed) (st2:SortSt),Sm (setPending st (((pendingOf st).setIfInBounds i (sa,na + nb,pw)).eraseIdxIfInBounds (i + 1))) st2->Rm κ ((arrOf st).extract (sa + k) (sa + na)) ((arrOf st).extract (sa + na) (sa + na + k')) r ->
   Q (failedOf (setArr st2 (r.toList.zipIdx.foldl (fun a (z:Keyed × Nat)=>a.setIfInBounds (sa + k + z.2) z.1) (arrOf st2)))).isNone (setArr st2 (r.toList.zipIdx.foldl (fun a (z:Keyed × Nat)=>a.setIfInBounds (sa + k + z.2) z.1) (arrOf st2))):=by
  rintro r st2 ⟨q1,q2,q3,q4⟩ ⟨r1,r2⟩
  rw [ex,ey] at r2
  have hrl:r.toList.length = (na - k) + k':=by
   rw [r2.length_eq,List.length_append]
   unfold seg
   rw [List.length_drop,List.length_take,List.length_take,List.length_drop,List.length_take,List.length_drop]
   omega
  have q2':arrOf st2 = arrOf st:=q2
  have ef:failedOf (setArr st2 (r.toList.zipIdx.foldl (fun a (z:Keyed × Nat)=>a.setIfInBounds (sa + k + z.2) z.1) (arrOf st2))) = none:=q4.trans hS.failed
  rw [ef]
  have el:=Bf r.toList (sa + k) (arrOf st2) (by rw [q2']; omega)
  have eq:(r.toList.zipIdx.foldl (fun a (z:Keyed × Nat)=>a.setIfInBounds (sa + k + z.2) z.1) (arrOf st2)).toList = (arrOf st).toList.take sa ++ ((seg (arrOf st).toList sa na).take k ++ r.toList ++ (seg (arrOf st).toList (sa + na) nb).drop k') ++ (arrOf st).toList.drop (sa + (na + nb)):=by
   rw [el,q2',hrl]
   have e1:(arrOf st).toList.take (sa + k) = (arrOf st).toList.take sa ++ (seg (arrOf st).toList sa na).take k:=by
    unfold seg
    rw [List.take_add,List.take_take,Nat.min_eq_left hk1]
   have e2:(arrOf st).toList.drop (sa + k + (na - k + k')) = (seg (arrOf st).toList (sa + na) nb).drop k' ++ (arrOf st).toList.drop (sa + (na + nb)):=by
    unfold seg
    rw [List.drop_take,List.drop_drop,show sa + k + (na - k + k') = sa + na + k' by omega]
    conv=>lhs; rw [<-List.take_append_drop (nb - k') ((arrOf st).toList.drop (sa + na + k'))]
    rw [List.drop_drop,show sa + na + k' + (nb - k') = sa + (na + nb) by omega]
   rw [e1,e2]
   simp only [List.append_assoc]
  have hp:((seg (arrOf st).toList sa na).take k ++ r.toList ++ (seg (arrOf st).toList (sa + na) nb).drop k').Perm (seg (arrOf st).toList sa (na + nb)):=by
   rw [Ib]
   have a1:((seg (arrOf st).toList sa na).take k ++ r.toList ++ (seg (arrOf st).toList (sa + na) nb).drop k').Perm ((seg (arrOf st).toList sa na).take k ++ ((seg (arrOf st).toList sa na).drop k ++ (seg (arrOf st).toList (sa + na) nb).take k') ++ (seg (arrOf st).toList (sa + na) nb).drop k') :=
    List.Perm.append_right _ (List.Perm.append_left _ r2)
   refine a1.trans (List.Perm.of_eq ?_)
   rw [<-List.append_assoc,List.take_append_drop,List.append_assoc,List.take_append_drop]
  obtain ⟨pa,ps⟩:=Part.of (κ:=κ) hp (by rw [hL]; omega)
  have hs:Sor κ ((seg (arrOf st).toList sa na).take k ++ r.toList ++ (seg (arrOf st).toList (sa + na) nb).drop k'):=by
   refine List.pairwise_append.mpr ⟨List.pairwise_append.mpr ⟨sx.sublist (List.take_sublist _ _),r1,fun x hx y hy=>?_⟩,sy.sublist (List.drop_sublist _ _),fun x hx y hy=>?_⟩
   ·rcases List.mem_append.mp (r2.mem_iff.mp hy) with hy | hy
    ·exact le_trans (xk x hx) (kx y hy)
    ·exact le_trans (xk x hx) (b0y y (List.mem_of_mem_take hy))
   ·rcases List.mem_append.mp hx with hx | hx
    ·exact le_trans (xal x (List.mem_of_mem_take hx)) (ky y hy)
    ·rcases List.mem_append.mp (r2.mem_iff.mp hx) with hx | hx
     ·exact le_trans (xal x (List.mem_of_mem_drop hx)) (ky y hy)
     ·exact le_trans (yk x hx) (ky y hy)
  refine h _ ⟨?_,q1.trans hS.kind,q4.trans hS.failed⟩ ?_ ?_ q3
  ·show (r.toList.zipIdx.foldl (fun a (z:Keyed × Nat)=>a.setIfInBounds (sa + k + z.2) z.1) (arrOf st2)).toList.Perm a₀.toList
   rw [eq]
   exact pa.perm.trans hS.perm
  ·show Part κ (arrOf st).toList (r.toList.zipIdx.foldl (fun a (z:Keyed × Nat)=>a.setIfInBounds (sa + k + z.2) z.1) (arrOf st2)).toList sa (na + nb)
   rw [eq]
   exact pa
  ·show Sor κ (seg (r.toList.zipIdx.foldl (fun a (z:Keyed × Nat)=>a.setIfInBounds (sa + k + z.2) z.1) (arrOf st2)).toList sa (na + nb))
   rw [eq,ps]
   exact hs
 by_cases hab:na - k<=k'
 ·rw [if_pos hab]
  refine wpS_bind (Hc C S1.kind P fun r st2 q r1=>?_)
  exact wpS_bind (wpS_modify (wpS_bind (wpS_get (wpS_pure (fin r st2 q r1)))))
 ·rw [if_neg hab]
  refine wpS_bind (Hy C S1.kind P fun r st2 q r1=>?_)
  exact wpS_bind (wpS_modify (wpS_bind (wpS_get (wpS_pure (fin r st2 q r1)))))
end
end TS
namespace TS
open PySem PyProof.Rows
section
variable {prog:Program} {w:World} {A:Around} {E:Value->Shared->Prop} {s:Shared} {κ:KeyKind} {kd:SortKind} {a₀:Array Keyed}
theorem Qx {xs:Array Keyed} {i:Nat} {p:Keyed} (h:xs[i]? = some p):KK κ xs i = kk κ p:=by unfold KK kk; rw [h]
noncomputable def SI (κ:KeyKind) (xs:Array Keyed) (lo m:Nat):Prop:=∀ i j,i<=j->j < m->κ.kle (KK κ xs (lo + i)) (KK κ xs (lo + j))
noncomputable def NI (κ:KeyKind) (xs:Array Keyed) (lo m:Nat):Prop:=∀ i j,i<=j->j < m->κ.kle (KK κ xs (lo + j)) (KK κ xs (lo + i))
theorem SI.sor {xs:Array Keyed} {lo m:Nat} (h:SI κ xs lo m):Sor κ (seg xs.toList lo m):=by
 refine List.pairwise_iff_getElem.mpr fun i j hi hj hij=>?_
 unfold seg at hi hj
 rw [List.length_take] at hi hj
 have e1:xs[lo + i]? = some (seg xs.toList lo m)[i]:=by
  rw [ar_get,<-O0 (n:=m) (by omega)]
  exact List.getElem?_eq_getElem _
 have e2:xs[lo + j]? = some (seg xs.toList lo m)[j]:=by
  rw [ar_get,<-O0 (n:=m) (by omega)]
  exact List.getElem?_eq_getElem _
 have:=h i j (by omega) (by omega)
 rw [Qx e1,Qx e2] at this
 exact this
structure Lo (κ:KeyKind) (kd:SortKind) (a₀:Array Keyed) (st0:SortSt) (lo n:Nat) (st:SortSt):Prop where
 S:St κ kd a₀ st
 pend:pendingOf st = pendingOf st0
 out:∀ t,t < lo\/lo + n<=t->(arrOf st)[t]? = (arrOf st0)[t]?
theorem Lo.part {st0 st:SortSt} {lo n:Nat} (h:Lo κ kd a₀ st0 lo n st) (h0:St κ kd a₀ st0):Part κ (arrOf st0).toList (arrOf st).toList lo n:=by
 refine ⟨h.S.perm.trans h0.perm.symm,List.ext_getElem? fun t=>?_,List.ext_getElem? fun t=>?_⟩
 ·by_cases ht:t < lo
  ·rw [List.getElem?_take_of_lt ht,List.getElem?_take_of_lt ht,Array.getElem?_toList,Array.getElem?_toList]
   exact h.out t (.inl ht)
  ·rw [List.getElem?_eq_none (by rw [List.length_take]; omega),List.getElem?_eq_none (by rw [List.length_take]; omega)]
 ·rw [List.getElem?_drop,List.getElem?_drop,Array.getElem?_toList,Array.getElem?_toList]
  exact h.out _ (.inr (by omega))
theorem Lo.mirror {st0 st:SortSt} {lo n i j:Nat} (h:Lo κ kd a₀ st0 lo n st) (hi:lo<=i) (hj:j<=lo + n) (hn:lo + n<=a₀.size):Lo κ kd a₀ st0 lo n (setArr st (mirror (arrOf st) i j ((j - i) / 2))):=by
 refine ⟨⟨(Array.perm_iff_toList_perm.mp (mirror_perm _ _ _ _)).trans h.S.perm,h.S.kind,h.S.failed⟩,h.pend,fun t ht=>?_⟩
 show (PyProof.Rows.mirror (arrOf st) i j ((j - i) / 2))[t]? = _
 have:=h.S.size
 rw [getElem?_mirror_all (by omega),if_neg (by omega)]
 exact h.out t ht
theorem P1 (C:Cmp prog w A s κ kd) (h0:KeysOf κ a₀) {st:SortSt} (hS:St κ kd a₀ st) {i j:Nat} {Q:Option Bool->SortSt->Prop} (hi:i < a₀.size) (hj:j < a₀.size)
  (h:Q (some (κ.blt (KK κ (arrOf st) i) (KK κ (arrOf st) j))) st):wpS (model prog w) A E s (ltAt' i j) Q st:=by
 have:=hS.size
 obtain ⟨p,hp⟩:=V5 (a:=arrOf st) (i:=i) (by omega)
 obtain ⟨q,hq⟩:=V5 (a:=arrOf st) (i:=j) (by omega)
 rw [ltAt'_eq]
 refine wpS_bind (wpS_get ?_)
 refine wpS_bind (C4 hp (wpS_bind (C4 hq (Fm C hS.kind (hS.has h0 _ _ hp) (hS.has h0 _ _ hq) ?_))))
 rw [Qx hp,Qx hq] at h
 exact h
theorem Yr {st:SortSt} {lo a nrem:Nat} {f:Nat->(Option (Option Nat) × Nat)->StateT SortSt Sem (ForInStep (Option (Option Nat) × Nat))} {Q:(Option (Option Nat) × Nat)->SortSt->Prop}
  (hf:∀ x n,1<=n->n < nrem->wpS (model prog w) A E s (f x (none,n)) (fun r st'=>st' = st/\r = if κ.blt (KK κ (arrOf st) (lo + n)) (KK κ (arrOf st) (lo + n - 1)) = true then .done (none,n) else .yield (none,n + 1)) st)
  (ha:1<=a) (han:a<=nrem) (hs:SI κ (arrOf st) lo a)
  (h:∀ n,a<=n->n<=nrem->SI κ (arrOf st) lo n->(n = nrem\/κ.klt (KK κ (arrOf st) (lo + n)) (KK κ (arrOf st) (lo + n - 1)))->Q (none,n) st):wpS (model prog w) A E s (forIn [a:nrem] (none,a) f) Q st:=by
 refine wpS_forRange (I:=fun x c st'=>st' = st/\c = (none,x)/\SI κ (arrOf st) lo x) ?_ ?_ ⟨rfl,rfl,hs⟩
 ·rintro x c st' hax hxn ⟨rfl,rfl,hs'⟩
  refine wpS_mono (hf x x (by omega) hxn) fun r st2 ⟨e,er⟩=>?_
  subst e
  cases hless:κ.blt (KK κ (arrOf st2) (lo + x)) (KK κ (arrOf st2) (lo + x - 1))
  ·rw [hless,if_neg Bool.false_ne_true] at er
   subst er
   refine ⟨rfl,rfl,fun i j hij hj=>?_⟩
   by_cases hjx:j < x
   ·exact hs' i j hij hjx
   ·have hj':j = x:=by omega
    subst hj'
    by_cases hi':i = j
    ·subst hi'; exact KeyOrd.kle_refl _
    ·have:=hs' i (j - 1) (by omega) (by omega)
     rw [show lo + (j - 1) = lo + j - 1 by omega] at this
     exact KeyOrd.kle_trans this hless
  ·rw [hless,if_pos rfl] at er
   subst er
   exact h x hax (by omega) hs' (.inr hless)
 ·rintro c st' ⟨rfl,rfl,hs'⟩
  rw [show max a nrem = nrem by omega] at hs' ⊢
  exact h nrem han (Nat.le_refl _) hs' (.inl rfl)
theorem NI.step {xs ys:Array Keyed} {lo x:Nat} (hx:1<=x) (hk:∀ k,KK κ ys k = KK κ xs k) (hs:NI κ xs lo x) (hl:κ.kle (KK κ xs (lo + x)) (KK κ xs (lo + x - 1))):NI κ ys lo (x + 1):=by
 intro i j hij hj
 rw [hk,hk]
 by_cases hjx:j < x
 ·exact hs i j hij hjx
 ·have hj':j = x:=by omega
  subst hj'
  by_cases hi':i = j
  ·subst hi'; exact KeyOrd.kle_refl _
  ·have:=hs i (j - 1) (by omega) (by omega)
   rw [show lo + (j - 1) = lo + j - 1 by omega] at this
   exact KeyOrd.kle_trans hl this
noncomputable abbrev DS:=Option (Option Nat) × Nat × Nat
theorem Yz {st0 st:SortSt} {lo n nrem:Nat} (hsz:lo + nrem<=a₀.size) {f:Nat->DS->StateT SortSt Sem (ForInStep DS)} {Q:DS->SortSt->Prop}
  (hf:∀ x n q st',1<=n->n < nrem->Lo κ kd a₀ st0 lo nrem st'->wpS (model prog w) A E s (f x (none,n,q)) (fun r st2 =>
   if κ.blt (KK κ (arrOf st') (lo + n)) (KK κ (arrOf st') (lo + n - 1)) = true then (st2 = if q > 0 then setArr st' (mirror (arrOf st') (lo + n - (q + 1)) (lo + n) ((lo + n - (lo + n - (q + 1))) / 2)) else st')/\r = .yield (none,n + 1,0)
   else st2 = st'/\r = if κ.blt (KK κ (arrOf st') (lo + n - 1)) (KK κ (arrOf st') (lo + n)) = true then .done (none,n,q) else .yield (none,n + 1,q + 1)) st')
  (h1:1<=n) (hnn:n<=nrem) (hB:Lo κ kd a₀ st0 lo nrem st) (hs:NI κ (arrOf st) lo n)
  (h:∀ m q st',Lo κ kd a₀ st0 lo nrem st'->n<=m->m<=nrem->NI κ (arrOf st') lo m->q + 1<=m->(∀ i,m - (q + 1)<=i->i < m->KK κ (arrOf st') (lo + i) = KK κ (arrOf st') (lo + m - 1))->Q (none,m,q) st') :
  wpS (model prog w) A E s (forIn [n:nrem] (none,n,0) f) Q st:=by
 refine wpS_forRange (I:=fun x c st'=>∃ q,c = (none,x,q)/\Lo κ kd a₀ st0 lo nrem st'/\NI κ (arrOf st') lo x/\q + 1<=x /\
   (∀ i,x - (q + 1)<=i->i < x->KK κ (arrOf st') (lo + i) = KK κ (arrOf st') (lo + x - 1))) ?_ ?_ ⟨0,rfl,hB,hs,by omega,fun i h1 h2=>by congr 1; omega⟩
 ·rintro x c st' hax hxn ⟨q,rfl,hB',hs',hq,he⟩
  have hs0:=hB'.S.size
  refine wpS_mono (hf x x q st' (by omega) hxn hB') fun r st2 hr=>?_
  cases hless:κ.blt (KK κ (arrOf st') (lo + x)) (KK κ (arrOf st') (lo + x - 1))
  ·rw [hless,if_neg Bool.false_ne_true] at hr
   obtain ⟨e,er⟩:=hr
   subst e
   cases hl:κ.blt (KK κ (arrOf st2) (lo + x - 1)) (KK κ (arrOf st2) (lo + x))
   ·rw [hl,if_neg Bool.false_ne_true] at er
    subst er
    have heqx:KK κ (arrOf st2) (lo + x) = KK κ (arrOf st2) (lo + x - 1):=KeyOrd.kle_antisymm hl hless
    refine ⟨q + 1,rfl,hB',NI.step (by omega) (fun _=>rfl) hs' hl,by omega,fun i g1 g2=>?_⟩
    rw [show lo + (x + 1) - 1 = lo + x by omega]
    by_cases hix:i = x
    ·subst hix; rfl
    ·rw [heqx]; exact he i (by omega) (by omega)
   ·rw [hl,if_pos rfl] at er
    subst er
    exact h x q st2 hB' hax (by omega) hs' hq he
  ·rw [hless,if_pos rfl] at hr
   obtain ⟨e,er⟩:=hr
   subst er
   have hl:κ.kle (KK κ (arrOf st') (lo + x)) (KK κ (arrOf st') (lo + x - 1)):=KeyOrd.kle_of_klt hless
   by_cases hq0:q > 0
   ·rw [if_pos hq0] at e
    subst e
    refine ⟨0,rfl,hB'.mirror (by omega) (by omega) hsz,NI.step (by omega) (KK_mirror_equal (by omega) fun k g1 g2=>?_) hs' hl,by omega,fun i g1 g2=>by congr 1; omega⟩
    have:=he (k - lo) (by omega) (by omega)
    rw [show lo + (k - lo) = k by omega] at this
    exact this
   ·rw [if_neg hq0] at e
    subst e
    exact ⟨0,rfl,hB',NI.step (by omega) (fun _=>rfl) hs' hl,by omega,fun i g1 g2=>by congr 1; omega⟩
 ·rintro c st' ⟨q,rfl,hB',hs',hq,he⟩
  rw [show max n nrem = nrem by omega] at hs' hq he ⊢
  exact h nrem q st' hB' hnn (Nat.le_refl _) hs' hq he
theorem NI.turn {xs:Array Keyed} {lo n:Nat} (hn:lo + n<=xs.size) (h:NI κ xs lo n):SI κ (mirror xs lo (lo + n) ((lo + n - lo) / 2)) lo n:=by
 intro i j hij hj
 rw [KK_mirror hn,KK_mirror hn,if_pos (by omega),if_pos (by omega)]
 have:=h (n - 1 - j) (n - 1 - i) (by omega) (by omega)
 rw [show lo + (n - 1 - i) = lo + (lo + n) - 1 - (lo + i) by omega,show lo + (n - 1 - j) = lo + (lo + n) - 1 - (lo + j) by omega] at this
 exact this
theorem Fy (C:Cmp prog w A s κ kd) (h0:KeysOf κ a₀) {st:SortSt} {lo nrem:Nat} {Q:Option Nat->SortSt->Prop} (hS:St κ kd a₀ st) (hsz:lo + nrem<=a₀.size) (h1:1<=nrem)
  (h:∀ m st',Lo κ kd a₀ st lo nrem st'->1<=m->m<=nrem->SI κ (arrOf st') lo m->Q (some m) st'):wpS (model prog w) A E s (countRun' lo nrem) Q st:=by
 have L0:Lo κ kd a₀ st lo nrem st:=⟨hS,rfl,fun _ _=>rfl⟩
 rw [countRun'_eq]
 dsimp only
 refine wpS_bind (Yr (κ:=κ) (lo:=lo) (fun x n g1 g2=>?_) (Nat.le_refl 1) h1 (fun i j hij hj=>by have:i = j:=(by omega); subst this; exact KeyOrd.kle_refl _) fun n hn1 hn2 hsn hor=>?_)
 ·dsimp only
  refine wpS_bind (P1 C h0 hS (by omega) (by omega) ?_)
  dsimp only
  cases κ.blt (KK κ (arrOf st) (lo + n)) (KK κ (arrOf st) (lo + n - 1))
  ·exact wpS_pure ⟨rfl,rfl⟩
  ·exact wpS_pure ⟨rfl,rfl⟩
 dsimp only
 by_cases hnn:n = nrem
 ·rw [if_pos (by simpa using hnn)]
  exact wpS_pure (h n st L0 hn1 hn2 hsn)
 rw [if_neg (by simpa using hnn)]
 have hlt:κ.klt (KK κ (arrOf st) (lo + n)) (KK κ (arrOf st) (lo + n - 1)):=hor.resolve_left hnn
 have hz:=hS.size
 by_cases hgt:n > 1
 ·rw [if_pos hgt]
  refine wpS_bind (P1 C h0 hS (by omega) (by omega) ?_)
  dsimp only
  cases hrose:κ.blt (KK κ (arrOf st) lo) (KK κ (arrOf st) (lo + n - 1)) with
  | true =>
   simp only [if_true]
   exact wpS_pure (h n st L0 hn1 hn2 hsn)
  | false =>
   simp only [Bool.false_eq_true,if_false]
   have hall:∀ k,lo<=k->k < lo + n->KK κ (arrOf st) k = KK κ (arrOf st) (lo + n - 1):=by
    intro k hk1 hk2
    have a1:=hsn 0 (k - lo) (by omega) (by omega)
    have a2:=hsn (k - lo) (n - 1) (by omega) (by omega)
    rw [Nat.add_zero,show lo + (k - lo) = k by omega] at a1
    rw [show lo + (k - lo) = k by omega,show lo + (n - 1) = lo + n - 1 by omega] at a2
    exact KeyOrd.kle_antisymm a2 (KeyOrd.kle_trans hrose a1)
   have hk:=KK_mirror_equal (κ:=κ) (xs:=arrOf st) (i:=lo) (j:=lo + n) (by omega) hall
   refine wpS_bind (wpS_reverse ?_)
   have hB2:=L0.mirror (i:=lo) (j:=lo + n) (by omega) (by omega) hsz
   have hN:NI κ (mirror (arrOf st) lo (lo + n) ((lo + n - lo) / 2)) lo (n + 1):=by
    refine NI.step (by omega) hk (fun i j hij hj=>?_) (KeyOrd.kle_of_klt hlt)
    rw [hall (lo + i) (by omega) (by omega),hall (lo + j) (by omega) (by omega)]
    exact KeyOrd.kle_refl _
   refine wpS_bind (wpS_lift (wpAny_rule ⟨rfl,?_⟩))
   refine wpS_bind (Yz (κ:=κ) (kd:=kd) (a₀:=a₀) (st0:=st) (lo:=lo) hsz (fun x n' q st' g1 g2 hB'=>?_) (by omega) (by omega) hB2 hN fun m q st' hB3 hm1 hm2 hs3 hq he=>?_)
   ·dsimp only
    refine wpS_bind (P1 C h0 hB'.S (by omega) (by omega) ?_)
    dsimp only
    cases κ.blt (KK κ (arrOf st') (lo + n')) (KK κ (arrOf st') (lo + n' - 1))
    ·simp only [Bool.false_eq_true,if_false]
     refine wpS_bind (P1 C h0 hB'.S (by omega) (by omega) ?_)
     dsimp only
     cases κ.blt (KK κ (arrOf st') (lo + n' - 1)) (KK κ (arrOf st') (lo + n'))
     ·exact wpS_pure ⟨rfl,rfl⟩
     ·exact wpS_pure ⟨rfl,rfl⟩
    ·simp only [if_true]
     by_cases hq:q > 0
     ·rw [if_pos hq,if_pos hq]
      exact wpS_bind (wpS_reverse (wpS_pure ⟨rfl,rfl⟩))
     ·rw [if_neg hq,if_neg hq]
      exact wpS_pure ⟨rfl,rfl⟩
   ·dsimp only
    have hz3:=hB3.S.size
    by_cases hq0:q > 0
    ·rw [if_pos hq0]
     refine wpS_bind (wpS_reverse (wpS_bind (wpS_reverse ?_)))
     have hB4':=hB3.mirror (i:=lo + m - (q + 1)) (j:=lo + m) (by omega) (by omega) hsz
     have hB4:=hB4'.mirror (i:=lo) (j:=lo + m) (by omega) (by omega) hsz
     have hz4:=hB4'.S.size
     have hN4:NI κ (mirror (arrOf st') (lo + m - (q + 1)) (lo + m) ((lo + m - (lo + m - (q + 1))) / 2)) lo m:=by
      have hk:=KK_mirror_equal (κ:=κ) (xs:=arrOf st') (i:=lo + m - (q + 1)) (j:=lo + m) (by omega) (fun k g1 g2=>by
       have:=he (k - lo) (by omega) (by omega)
       rw [show lo + (k - lo) = k by omega] at this
       exact this)
      intro i j hij hj
      rw [hk,hk]
      exact hs3 i j hij hj
     have hT:=hN4.turn (κ:=κ) (lo:=lo) (n:=m) (by rw [mirror_size]; omega)
     refine wpS_bind (Yr (κ:=κ) (lo:=lo) (fun x n' g1 g2=>?_) (by omega) hm2 hT fun m' hm1' hm2' hsm _=>wpS_pure (h m' _ hB4 (by omega) hm2' hsm))
     dsimp only
     refine wpS_bind (P1 C h0 hB4.S (by omega) (by omega) ?_)
     dsimp only
     cases κ.blt (KK κ _ (lo + n')) (KK κ _ (lo + n' - 1))
     ·exact wpS_pure ⟨rfl,rfl⟩
     ·exact wpS_pure ⟨rfl,rfl⟩
    ·rw [if_neg hq0]
     refine wpS_bind (wpS_reverse ?_)
     have hB4:=hB3.mirror (i:=lo) (j:=lo + m) (by omega) (by omega) hsz
     have hT:=hs3.turn (κ:=κ) (lo:=lo) (n:=m) (by omega)
     refine wpS_bind (Yr (κ:=κ) (lo:=lo) (fun x n' g1 g2=>?_) (by omega) hm2 hT fun m' hm1' hm2' hsm _=>wpS_pure (h m' _ hB4 (by omega) hm2' hsm))
     dsimp only
     refine wpS_bind (P1 C h0 hB4.S (by omega) (by omega) ?_)
     dsimp only
     cases κ.blt (KK κ _ (lo + n')) (KK κ _ (lo + n' - 1))
     ·exact wpS_pure ⟨rfl,rfl⟩
     ·exact wpS_pure ⟨rfl,rfl⟩
 ·rw [if_neg hgt]
  have hn1':n = 1:=by omega
  have hB2:=L0
  have hN:NI κ (arrOf st) lo (n + 1):=by
   refine NI.step (by omega) (fun _=>rfl) (fun i j hij hj=>?_) (KeyOrd.kle_of_klt hlt)
   have:i = j:=by omega
   subst this; exact KeyOrd.kle_refl _
  refine wpS_bind (wpS_lift (wpAny_rule ⟨rfl,?_⟩))
  refine wpS_bind (Yz (κ:=κ) (kd:=kd) (a₀:=a₀) (st0:=st) (lo:=lo) hsz (fun x n' q st' g1 g2 hB'=>?_) (by omega) (by omega) hB2 hN fun m q st' hB3 hm1 hm2 hs3 hq he=>?_)
  ·dsimp only
   refine wpS_bind (P1 C h0 hB'.S (by omega) (by omega) ?_)
   dsimp only
   cases κ.blt (KK κ (arrOf st') (lo + n')) (KK κ (arrOf st') (lo + n' - 1))
   ·simp only [Bool.false_eq_true,if_false]
    refine wpS_bind (P1 C h0 hB'.S (by omega) (by omega) ?_)
    dsimp only
    cases κ.blt (KK κ (arrOf st') (lo + n' - 1)) (KK κ (arrOf st') (lo + n'))
    ·exact wpS_pure ⟨rfl,rfl⟩
    ·exact wpS_pure ⟨rfl,rfl⟩
   ·simp only [if_true]
    by_cases hq:q > 0
    ·rw [if_pos hq,if_pos hq]
     exact wpS_bind (wpS_reverse (wpS_pure ⟨rfl,rfl⟩))
    ·rw [if_neg hq,if_neg hq]
     exact wpS_pure ⟨rfl,rfl⟩
  ·dsimp only
   have hz3:=hB3.S.size
   by_cases hq0:q > 0
   ·rw [if_pos hq0]
    refine wpS_bind (wpS_reverse (wpS_bind (wpS_reverse ?_)))
    have hB4':=hB3.mirror (i:=lo + m - (q + 1)) (j:=lo + m) (by omega) (by omega) hsz
    have hB4:=hB4'.mirror (i:=lo) (j:=lo + m) (by omega) (by omega) hsz
    have hz4:=hB4'.S.size
    have hN4:NI κ (mirror (arrOf st') (lo + m - (q + 1)) (lo + m) ((lo + m - (lo + m - (q + 1))) / 2)) lo m:=by
     have hk:=KK_mirror_equal (κ:=κ) (xs:=arrOf st') (i:=lo + m - (q + 1)) (j:=lo + m) (by omega) (fun k g1 g2=>by
      have:=he (k - lo) (by omega) (by omega)
      rw [show lo + (k - lo) = k by omega] at this
      exact this)
     intro i j hij hj
     rw [hk,hk]
     exact hs3 i j hij hj
    have hT:=hN4.turn (κ:=κ) (lo:=lo) (n:=m) (by rw [mirror_size]; omega)
    refine wpS_bind (Yr (κ:=κ) (lo:=lo) (fun x n' g1 g2=>?_) (by omega) hm2 hT fun m' hm1' hm2' hsm _=>wpS_pure (h m' _ hB4 (by omega) hm2' hsm))
    dsimp only
    refine wpS_bind (P1 C h0 hB4.S (by omega) (by omega) ?_)
    dsimp only
    cases κ.blt (KK κ _ (lo + n')) (KK κ _ (lo + n' - 1))
    ·exact wpS_pure ⟨rfl,rfl⟩
    ·exact wpS_pure ⟨rfl,rfl⟩
   ·rw [if_neg hq0]
    refine wpS_bind (wpS_reverse ?_)
    have hB4:=hB3.mirror (i:=lo) (j:=lo + m) (by omega) (by omega) hsz
    have hT:=hs3.turn (κ:=κ) (lo:=lo) (n:=m) (by omega)
    refine wpS_bind (Yr (κ:=κ) (lo:=lo) (fun x n' g1 g2=>?_) (by omega) hm2 hT fun m' hm1' hm2' hsm _=>wpS_pure (h m' _ hB4 (by omega) hm2' hsm))
    dsimp only
    refine wpS_bind (P1 C h0 hB4.S (by omega) (by omega) ?_)
    dsimp only
    cases κ.blt (KK κ _ (lo + n')) (KK κ _ (lo + n' - 1))
    ·exact wpS_pure ⟨rfl,rfl⟩
    ·exact wpS_pure ⟨rfl,rfl⟩
theorem Lo.bubble {st0 st:SortSt} {lo n src d:Nat} (h:Lo κ kd a₀ st0 lo n st) (h1:lo + d<=src) (h2:src < lo + n) (hn:lo + n<=a₀.size):Lo κ kd a₀ st0 lo n (setArr st (bubble (arrOf st) src d)):=by
 refine ⟨⟨(Array.perm_iff_toList_perm.mp (bubble_perm _ _ _)).trans h.S.perm,h.S.kind,h.S.failed⟩,h.pend,fun t ht=>?_⟩
 show (PyProof.Rows.bubble (arrOf st) src d)[t]? = _
 have:=h.S.size
 rw [getElem?_bubble (by omega) d (by omega),if_neg (by omega),if_neg (by omega)]
 exact h.out t ht
theorem Ay (C:Cmp prog w A s κ kd) (h0:KeysOf κ a₀) {st0 st:SortSt} {lo nrem n ok:Nat} {Q:Bool->SortSt->Prop} (hB:Lo κ kd a₀ st0 lo nrem st) (hsz:lo + nrem<=a₀.size) (hn:n<=nrem) (hok:ok<=n) (hs:SI κ (arrOf st) lo ok)
  (h:∀ st',Lo κ kd a₀ st0 lo nrem st'->SI κ (arrOf st') lo n->Q true st'):wpS (model prog w) A E s (binarySort' lo n ok) Q st:=by
 rw [binarySort'_eq]
 refine wpS_bind (wpS_mono (wpS_forRange (I:=fun k c st'=>c = (none,())/\Lo κ kd a₀ st0 lo nrem st'/\SI κ (arrOf st') lo (min k n))
  (Q:=fun c st'=>c = (none,())/\Lo κ kd a₀ st0 lo nrem st'/\SI κ (arrOf st') lo n) ?step ?fin ?init) ?post)
 case post =>
  rintro c st' ⟨rfl,hB',hs'⟩
  exact wpS_pure (h st' hB' hs')
 case init =>
  refine ⟨rfl,hB,fun i j hij hj=>?_⟩
  by_cases h1:ok = 0
  ·have:i = j:=by omega
   subst this; exact KeyOrd.kle_refl _
  ·exact hs i j hij (by omega)
 case fin =>
  rintro c st' ⟨hc,hB',hs'⟩
  refine ⟨hc,hB',?_⟩
  rwa [show min (max (max ok 1) n) n = n by omega] at hs'
 case step =>
  rintro k c st' hak hkn ⟨rfl,hB',hs'⟩
  rw [show min k n = k by omega] at hs'
  dsimp only
  refine wpS_bind (wpS_mono (wpS_forRange (I:=fun x c st''=>st'' = st'/\∃ l r,c = (none,l,r)/\l<=r/\r<=k/\r - l<=k - x /\
    (∀ i,i < l->κ.kle (KK κ (arrOf st') (lo + i)) (KK κ (arrOf st') (lo + k)))/\(∀ i,r<=i->i < k->κ.klt (KK κ (arrOf st') (lo + k)) (KK κ (arrOf st') (lo + i))))
   (Q:=fun c st''=>st'' = st'/\∃ l r,c = (none,l,r)/\l<=k /\
    (∀ i,i < l->κ.kle (KK κ (arrOf st') (lo + i)) (KK κ (arrOf st') (lo + k)))/\(∀ i,l<=i->i < k->κ.klt (KK κ (arrOf st') (lo + k)) (KK κ (arrOf st') (lo + i)))) ?istep ?ifin ?iinit) ?ipost)
  case iinit=>exact ⟨rfl,0,k,rfl,by omega,by omega,by omega,fun i hi=>by omega,fun i h1 h2=>by omega⟩
  case ifin =>
   rintro c st'' ⟨rfl,l,r,rfl,hlr,hrk,hm,hlo,hhi⟩
   have:l = r:=by omega
   subst this
   exact ⟨rfl,l,l,rfl,hrk,hlo,hhi⟩
  case istep =>
   rintro x c st'' _ hxk ⟨rfl,l,r,rfl,hlr,hrk,hm,hlo,hhi⟩
   dsimp only
   by_cases hge:l ≥ r
   ·rw [if_pos hge]
    have:l = r:=by omega
    subst this
    exact wpS_pure ⟨rfl,l,l,rfl,hrk,hlo,hhi⟩
   ·rw [if_neg hge]
    refine wpS_bind (P1 C h0 hB'.S (by omega) (by omega) ?_)
    dsimp only
    cases hless:κ.blt (KK κ (arrOf st'') (lo + k)) (KK κ (arrOf st'') (lo + (l + r) / 2))
    case true =>
     simp only [if_true]
     refine wpS_pure ⟨rfl,l,(l + r) / 2,rfl,by omega,by omega,by omega,hlo,fun i h1 h2=>?_⟩
     exact KeyOrd.klt_of_klt_of_kle hless (hs' _ _ h1 h2)
    case false =>
     simp only [Bool.false_eq_true,if_false]
     refine wpS_pure ⟨rfl,(l + r) / 2 + 1,r,rfl,by omega,by omega,by omega,fun i h1=>?_,hhi⟩
     exact KeyOrd.kle_trans (hs' i ((l + r) / 2) (by omega) (by omega)) (show κ.kle _ _ from hless)
  case ipost =>
   rintro c st'' ⟨rfl,l,r,rfl,hlk,hlo,hhi⟩
   have hz:=hB'.S.size
   show wpS _ _ _ _ (do moveDown' (lo + k) (lo + l); pure (ForInStep.yield (none,()))) _ _
   rw [moveDown'_eq]
   refine wpS_bind (wpS_modify (wpS_pure ⟨rfl,hB'.bubble (by omega) (by omega) hsz,?_⟩))
   rw [show min (k + 1) n = k + 1 by omega]
   intro i j hij hj
   show κ.kle (KK κ (bubble (arrOf st'') (lo + k) (lo + k - (lo + l))) (lo + i)) (KK κ (bubble (arrOf st'') (lo + k) (lo + k - (lo + l))) (lo + j))
   rw [KK_bubble (by omega) (by omega),KK_bubble (by omega) (by omega),show lo + k - (lo + k - (lo + l)) = lo + l by omega]
   have shift:∀ z,1<=z->lo + z - 1 = lo + (z - 1):=fun z _=>by omega
   repeat' split
   all_goals first
    | (exfalso; omega)
    | exact KeyOrd.kle_refl _
    | exact hlo _ (by omega)
    | exact KeyOrd.kle_of_klt (hhi _ (by omega) (by omega))
    | exact hs' _ _ (by omega) (by omega)
    | (rw [shift j (by omega)]; exact KeyOrd.kle_of_klt (hhi _ (by omega) (by omega)))
    | (rw [shift i (by omega)]; exact hlo _ (by omega))
    | (rw [shift j (by omega)]; exact hs' _ _ (by omega) (by omega))
    | (rw [shift i (by omega),shift j (by omega)]; exact hs' _ _ (by omega) (by omega))
    | (rw [shift i (by omega)]; exact hs' _ _ (by omega) (by omega))
end
end TS
namespace TS
open PySem PyProof.Rows
noncomputable abbrev Run:=Nat × Nat × Nat
noncomputable def Cov:List Run->Nat->Nat->Prop
 | [],a,b=>a = b
 | x :: r,a,b=>x.1 = a/\1<=x.2.1/\Cov r (a + x.2.1) b
theorem Cov.app:∀ {l1 l2:List Run} {a b:Nat},Cov (l1 ++ l2) a b ↔ ∃ c,Cov l1 a c/\Cov l2 c b
 | [],l2,a,b=>⟨fun h=>⟨a,rfl,h⟩,fun ⟨c,h1,h2⟩=>by have:a = c:=h1; subst this; exact h2⟩
 | x :: r,l2,a,b=>by
  constructor
  ·rintro ⟨h1,h2,h3⟩
   obtain ⟨c,h4,h5⟩:=Cov.app.mp h3
   exact ⟨c,⟨h1,h2,h4⟩,h5⟩
  ·rintro ⟨c,⟨h1,h2,h4⟩,h5⟩
   exact ⟨h1,h2,Cov.app.mpr ⟨c,h4,h5⟩⟩
theorem Cov.le:∀ {l:List Run} {a b:Nat},Cov l a b->a + l.length<=b
 | [],a,b,h=>by have:a = b:=h; subst this; simp
 | x :: r,a,b,⟨h1,h2,h3⟩=>by have:=Cov.le h3; rw [List.length_cons]; omega
theorem Cov.mem:∀ {l:List Run} {a b:Nat} {x:Run},Cov l a b->x ∈ l->a<=x.1/\x.1 + x.2.1<=b
 | [],_,_,_,_,hx=>absurd hx (by simp)
 | y :: r,a,b,x,⟨h1,h2,h3⟩,hx=>by
  have hl:=Cov.le h3
  rcases List.mem_cons.mp hx with e | hx
  ·subst e; omega
  ·have:=Cov.mem h3 hx; omega
theorem zBx {l:List Run} {i:Nat} {x y:Run} (hx:l[i]? = some x) (hy:l[i + 1]? = some y):l = l.take i ++ x :: y :: l.drop (i + 2):=by
 obtain ⟨h1,rfl⟩:=List.getElem?_eq_some_iff.mp hx
 obtain ⟨h2,rfl⟩:=List.getElem?_eq_some_iff.mp hy
 conv=>lhs; rw [<-List.take_append_drop i l]
 rw [List.drop_eq_getElem_cons h1,List.drop_eq_getElem_cons h2]
theorem zAz {l:List Run} {i:Nat} {x y:Run} (z:Run) (hx:l[i]? = some x) (hy:l[i + 1]? = some y):(l.set i z).eraseIdx (i + 1) = l.take i ++ z :: l.drop (i + 2):=by
 obtain ⟨h1,_⟩:=List.getElem?_eq_some_iff.mp hx
 obtain ⟨h2,_⟩:=List.getElem?_eq_some_iff.mp hy
 have e:=zBx hx hy
 have hl:(l.take i).length = i:=by rw [List.length_take]; omega
 generalize l.take i = p at *
 generalize l.drop (i + 2) = q at *
 subst e
 rw [List.set_append_right _ _ (by omega),hl,Nat.sub_self,List.eraseIdx_append_of_length_le (by omega),hl,show i + 1 - i = 1 by omega]
 rfl
section
variable {prog:Program} {w:World} {A:Around} {E:Value->Shared->Prop} {s:Shared} {κ:KeyKind} {kd:SortKind} {a₀:Array Keyed}
structure RI (κ:KeyKind) (kd:SortKind) (a₀:Array Keyed) (lo:Nat) (st:SortSt):Prop where
 S:St κ kd a₀ st
 cov:Cov (pendingOf st).toList 0 lo
 sor:∀ x ∈ (pendingOf st).toList,Sor κ (seg (arrOf st).toList x.1 x.2.1)
theorem Il (C:Cmp prog w A s κ kd) (h0:KeysOf κ a₀) {st:SortSt} {lo i:Nat} {Q:Bool->SortSt->Prop} (R:RI κ kd a₀ lo st) (hlo:lo<=a₀.size) (hi:i + 1 < (pendingOf st).size)
  (h:∀ st',RI κ kd a₀ lo st'->(pendingOf st').size + 1 = (pendingOf st).size->Part κ (arrOf st).toList (arrOf st').toList 0 lo->Q true st'):wpS (model prog w) A E s (mergeAt' i) Q st:=by
 obtain ⟨⟨sa,na,pw⟩,hx⟩:∃ x,(pendingOf st)[i]? = some x:=⟨_,getElem?_pos _ i (by omega)⟩
 obtain ⟨⟨sb,nb,pw2⟩,hy⟩:∃ x,(pendingOf st)[i + 1]? = some x:=⟨_,getElem?_pos _ (i + 1) hi⟩
 have hx':(pendingOf st).toList[i]? = some (sa,na,pw):=by rw [Array.getElem?_toList]; exact hx
 have hy':(pendingOf st).toList[i + 1]? = some (sb,nb,pw2):=by rw [Array.getElem?_toList]; exact hy
 have e:=zBx hx' hy'
 have c:=R.cov
 rw [e] at c
 obtain ⟨c0,c1,c2⟩:=Cov.app.mp c
 obtain ⟨d1,d2,d3,d4,d5⟩:=c2
 dsimp only at d1 d2 d3 d4 d5
 have hl5:=Cov.le d5
 refine Im C h0 R.S hx hy (by omega) (by omega) d2 d4 (R.sor _ (List.mem_of_getElem? hx')) (R.sor _ (List.mem_of_getElem? hy')) fun st' S' P' s' p'=>?_
 have ep:(pendingOf st').toList = (pendingOf st).toList.take i ++ (sa,na + nb,pw) :: (pendingOf st).toList.drop (i + 2):=by
  rw [p',<-zAz (sa,na + nb,pw) hx' hy']
  simp
 refine h st' ⟨S',?_,fun x hxm=>?_⟩ ?_ ?_
 ·rw [ep]
  exact Cov.app.mpr ⟨c0,c1,d1,(by show 1<=na + nb; omega),(by show Cov _ (c0 + (na + nb)) lo; rw [<-Nat.add_assoc]; exact d5)⟩
 ·rw [ep] at hxm
  have old:∀ y ∈ (pendingOf st).toList,(y.1 + y.2.1<=sa\/sa + (na + nb)<=y.1)->Sor κ (seg (arrOf st').toList y.1 y.2.1):=fun y hy ho=>by
   have:=R.sor y hy
   rcases ho with ho | ho
   ·rw [P'.seg_front ho]; exact this
   ·rw [P'.seg_back ho]; exact this
  rcases List.mem_append.mp hxm with hm | hm
  ·have:=Cov.mem c1 hm
   exact old x (List.mem_of_mem_take hm) (.inl (by omega))
  ·rcases List.mem_cons.mp hm with hm | hm
   ·subst hm
    exact s'
   ·have:=Cov.mem d5 hm
    exact old x (List.mem_of_mem_drop hm) (.inr (by omega))
 ·have:=congrArg List.length ep
  rw [Array.length_toList,List.length_append,List.length_cons,List.length_take,List.length_drop,Array.length_toList] at this
  omega
 ·have hb:∀ z:List Keyed,z.drop (0 + lo) = (z.drop (sa + (na + nb))).drop (lo - (sa + (na + nb))):=fun z=>by
   rw [List.drop_drop]; congr 1; omega
  exact ⟨P'.perm,rfl,by rw [hb,hb,P'.back]⟩
theorem Ao {l:Array Run} {pw:Nat}:(l.modify (l.size - 1) fun x=>(x.1,x.2.1,pw)).toList.map (fun x:Run=>(x.1,x.2.1)) = l.toList.map fun x:Run=>(x.1,x.2.1):=by
 refine List.ext_getElem? fun t=>?_
 rw [List.getElem?_map,List.getElem?_map,Array.getElem?_toList,Array.getElem?_toList,Array.getElem?_modify]
 split
 ·cases l[t]? <;> rfl
 ·rfl
theorem Cov.congr:∀ {l l':List Run} {a b:Nat},l'.map (fun x:Run=>(x.1,x.2.1)) = l.map (fun x:Run=>(x.1,x.2.1))->Cov l a b->Cov l' a b
 | [],[],_,_,_,h=>h
 | [],_ :: _,_,_,e,_=>by simp at e
 | _ :: _,[],_,_,e,_=>by simp at e
 | x :: r,y :: r',a,b,e,⟨h1,h2,h3⟩=>by
  rw [List.map_cons,List.map_cons] at e
  obtain ⟨e1,e2⟩:=List.cons.inj e
  obtain ⟨e3,e4⟩:=Prod.mk.inj e1
  exact ⟨e3.trans h1,by rw [e4]; exact h2,by rw [e4]; exact Cov.congr e2 h3⟩
theorem RI.congr {lo:Nat} {st:SortSt} (R:RI κ kd a₀ lo st) {p:Array Run} (e:p.toList.map (fun x:Run=>(x.1,x.2.1)) = (pendingOf st).toList.map fun x:Run=>(x.1,x.2.1)):RI κ kd a₀ lo (setPending st p):=by
 refine ⟨⟨R.S.perm,R.S.kind,R.S.failed⟩,Cov.congr e R.cov,fun x hx=>?_⟩
 have:(x.1,x.2.1) ∈ (pendingOf st).toList.map fun x:Run=>(x.1,x.2.1):=by
  rw [<-e]
  exact List.mem_map.mpr ⟨x,hx,rfl⟩
 obtain ⟨y,hy,ey⟩:=List.mem_map.mp this
 obtain ⟨e1,e2⟩:=Prod.mk.inj ey
 have:=R.sor y hy
 rw [e1,e2] at this
 exact this
theorem Du (C:Cmp prog w A s κ kd) (h0:KeysOf κ a₀) {st:SortSt} {Q:Unit->SortSt->Prop} (hS:St κ kd a₀ st) (hp:pendingOf st = #[])
  (h:∀ st',St κ kd a₀ st'->Sor κ (arrOf st').toList->Q () st'):wpS (model prog w) A E s sortRuns' Q st:=by
 rw [sortRuns'_eq]
 refine wpS_bind (wpS_get ?_)
 dsimp only
 have hz:=hS.size
 rw [hz]
 generalize minRun' a₀.size a₀.size 0 = mr
 refine wpS_bind (wpS_mono (wpS_forRange (I:=fun x c st'=>∃ lo,c = (none,lo)/\RI κ kd a₀ lo st'/\lo<=a₀.size/\min x a₀.size<=lo)
  (Q:=fun c st'=>∃ lo,c = (none,lo)/\RI κ kd a₀ lo st'/\lo = a₀.size) ?st ?en ⟨0,rfl,⟨hS,by rw [hp]; rfl,fun x hx=>by rw [hp] at hx; exact absurd hx (by simp)⟩,Nat.zero_le _,by omega⟩) ?po)
 case en =>
  rintro c st' ⟨lo,rfl,R,h1,h2⟩
  exact ⟨lo,rfl,R,by omega⟩
 case po =>
  rintro c st' ⟨lo,rfl,R,rfl⟩
  dsimp only
  refine wpS_bind (wpS_mono (wpS_forRange (I:=fun x c st'=>c = (none,())/\RI κ kd a₀ a₀.size st'/\(pendingOf st').size + x<=a₀.size + 1)
   (Q:=fun c st'=>c = (none,())/\RI κ kd a₀ a₀.size st'/\(pendingOf st').size<=1) ?st3 ?en3 ⟨rfl,R,?in3⟩) ?po3)
  case in3 =>
   have:=Cov.le R.cov
   rw [Array.length_toList] at this
   omega
  case en3 =>
   rintro c st2 ⟨rfl,R2,g⟩
   exact ⟨rfl,R2,by omega⟩
  case po3 =>
   rintro c st2 ⟨rfl,R2,g⟩
   refine wpS_pure (h st2 R2.S ?_)
   have c:=R2.cov
   have so:=R2.sor
   have hz2:=R2.S.size
   have hl:(pendingOf st2).toList.length<=1:=by rw [Array.length_toList]; exact g
   generalize (pendingOf st2).toList = l at c so hl
   match l,c,so,hl with
   | [],c,_,_ =>
    have c':0 = a₀.size:=c
    have:(arrOf st2).toList = []:=List.eq_nil_of_length_eq_zero (by rw [Array.length_toList]; omega)
    rw [this]
    exact List.Pairwise.nil
   | [x],⟨c1,c2,c3⟩,so,_ =>
    have c3':0 + x.2.1 = a₀.size:=c3
    have:=so x (List.mem_singleton.mpr rfl)
    unfold seg at this
    rw [c1,List.drop_zero,List.take_of_length_le (by rw [Array.length_toList]; omega)] at this
    exact this
   | _ :: _ :: _,_,_,hl=>exact absurd hl (by simp)
  case st3 =>
   rintro x c st2 _ hx ⟨rfl,R2,g⟩
   try dsimp only
   refine wpS_bind (wpS_get ?_)
   by_cases hle:(pendingOf st2).size<=1
   ·rw [if_pos hle]
    exact wpS_pure ⟨rfl,R2,hle⟩
   rw [if_neg hle]
   refine wpS_bind (Il C h0 R2 (Nat.le_refl _) ?_ fun st3 R3 e3 _=>?_)
   ·have hi2:∀ {c:Prop} [Decidable c] {n:Nat},(if c then n - 1 else n) + 1<=n + 1:=by intro c _ n; split <;> omega
    exact Nat.lt_of_le_of_lt hi2 (by omega)
   ·simp only [Bool.not_true,Bool.false_eq_true,if_false]
    exact wpS_pure ⟨rfl,R3,by omega⟩
 case st =>
  rintro x c st' _ hx ⟨lo,rfl,R,h1,h2⟩
  dsimp only
  by_cases hge:lo ≥ a₀.size
  ·rw [if_pos hge]
   exact wpS_pure ⟨lo,rfl,R,by omega⟩
  rw [if_neg hge]
  refine wpS_bind (Fy C h0 R.S (by omega) (by omega) fun m st2 L2 hm1 hm2 hs2=>?_)
  dsimp only
  by_cases hmr:m < mr
  ·rw [if_pos hmr]
   refine wpS_bind (wpS_lift (wpAny_rule ⟨rfl,?_⟩))
   refine wpS_bind (Ay C h0 L2 (by omega) (show min (a₀.size - lo) mr<=a₀.size - lo by omega) (by omega) hs2 fun st5 L5 s5=>?_)
   simp only [Bool.not_true,Bool.false_eq_true,if_false]
   have hN:1<=min (a₀.size - lo) mr/\min (a₀.size - lo) mr<=a₀.size - lo:=by omega
   generalize min (a₀.size - lo) mr = N at hN s5 ⊢
   have R5:RI κ kd a₀ lo st5:=by
    refine ⟨L5.S,by rw [L5.pend]; exact R.cov,fun y hy=>?_⟩
    rw [L5.pend] at hy
    have hc:=Cov.mem R.cov hy
    rw [(L5.part R.S).seg_front (by omega)]
    exact R.sor y hy
   refine wpS_bind (wpS_get ?_)
   have push:∀ (st6:SortSt),RI κ kd a₀ lo st6->Sor κ (seg (arrOf st6).toList lo N)->RI κ kd a₀ (lo + N) (setPending st6 ((pendingOf st6).push (lo,N,0))):=fun st6 R6 s6=>by
    refine ⟨⟨R6.S.perm,R6.S.kind,R6.S.failed⟩,?_,fun y hy=>?_⟩
    ·show Cov ((pendingOf st6).push (lo,N,0)).toList 0 (lo + N)
     rw [Array.toList_push]
     exact Cov.app.mpr ⟨lo,R6.cov,rfl,(by show 1<=N; omega),rfl⟩
    ·have hy':y ∈ ((pendingOf st6).push (lo,N,0)).toList:=hy
     rw [Array.toList_push] at hy'
     rcases List.mem_append.mp hy' with hy' | hy'
     ·exact R6.sor y hy'
     ·rw [List.mem_singleton.mp hy']
      exact s6
   cases hbk:(pendingOf st5).back? with
   | none =>
    dsimp only
    refine wpS_bind (wpS_modify (wpS_pure ⟨_,rfl,push _ R5 s5.sor,by omega,by omega⟩))
   | some bk =>
    obtain ⟨s1,n1,pb⟩:=bk
    dsimp only
    generalize power' a₀.size (2 * s1 + n1) (2 * s1 + n1 + n1 + N) a₀.size = pw
    refine wpS_bind (wpS_mono (wpS_forRange (I:=fun x c st6=>c = (none,())/\RI κ kd a₀ lo st6/\Part κ (arrOf st5).toList (arrOf st6).toList 0 lo)
     (Q:=fun c st6=>c = (none,())/\RI κ kd a₀ lo st6/\Part κ (arrOf st5).toList (arrOf st6).toList 0 lo) ?stc1 (fun _ _ z=>z) ⟨rfl,R5,Part.refl _ _ _⟩) ?poc1)
    case stc1 =>
     rintro x' c st6 _ _ ⟨rfl,R6,P6⟩
     try dsimp only
     refine wpS_bind (wpS_get ?_)
     by_cases hp1:(pendingOf st6).size > 1
     ·rw [if_pos hp1]
      obtain ⟨⟨u1,u2,ol⟩,hu⟩:∃ y,(pendingOf st6)[(pendingOf st6).size - 2]? = some y:=⟨_,getElem?_pos _ _ (by omega)⟩
      rw [hu]
      dsimp only
      by_cases hol:ol<=pw
      ·rw [if_pos hol]
       exact wpS_pure ⟨rfl,R6,P6⟩
      rw [if_neg hol]
      refine wpS_bind (Il C h0 R6 h1 (by omega) fun st7 R7 _ P7=>?_)
      simp only [Bool.not_true,Bool.false_eq_true,if_false]
      exact wpS_pure ⟨rfl,R7,⟨P7.perm.trans P6.perm,rfl,P7.back.trans P6.back⟩⟩
     ·rw [if_neg hp1]
      exact wpS_pure ⟨rfl,R6,P6⟩
    case poc1 =>
     rintro c st6 ⟨rfl,R6,P6⟩
     dsimp only
     refine wpS_bind (wpS_modify (wpS_bind (wpS_modify (wpS_pure ⟨_,rfl,push _ (R6.congr Ao) ?_,by omega,by omega⟩))))
     show Sor κ (seg (arrOf st6).toList lo N)
     rw [P6.seg_back (by omega)]
     exact s5.sor
  ·rw [if_neg hmr]
   have R5:RI κ kd a₀ lo st2:=by
    refine ⟨L2.S,by rw [L2.pend]; exact R.cov,fun y hy=>?_⟩
    rw [L2.pend] at hy
    have hc:=Cov.mem R.cov hy
    rw [(L2.part R.S).seg_front (by omega)]
    exact R.sor y hy
   refine wpS_bind (wpS_get ?_)
   have push:∀ (st6:SortSt),RI κ kd a₀ lo st6->Sor κ (seg (arrOf st6).toList lo m)->RI κ kd a₀ (lo + m) (setPending st6 ((pendingOf st6).push (lo,m,0))):=fun st6 R6 s6=>by
    refine ⟨⟨R6.S.perm,R6.S.kind,R6.S.failed⟩,?_,fun y hy=>?_⟩
    ·show Cov ((pendingOf st6).push (lo,m,0)).toList 0 (lo + m)
     rw [Array.toList_push]
     exact Cov.app.mpr ⟨lo,R6.cov,rfl,(by show 1<=m; omega),rfl⟩
    ·have hy':y ∈ ((pendingOf st6).push (lo,m,0)).toList:=hy
     rw [Array.toList_push] at hy'
     rcases List.mem_append.mp hy' with hy' | hy'
     ·exact R6.sor y hy'
     ·rw [List.mem_singleton.mp hy']
      exact s6
   cases hbk:(pendingOf st2).back? with
   | none =>
    dsimp only
    refine wpS_bind (wpS_modify (wpS_pure ⟨_,rfl,push _ R5 hs2.sor,by omega,by omega⟩))
   | some bk =>
    obtain ⟨s1,n1,pb⟩:=bk
    dsimp only
    generalize power' a₀.size (2 * s1 + n1) (2 * s1 + n1 + n1 + m) a₀.size = pw
    refine wpS_bind (wpS_mono (wpS_forRange (I:=fun x c st6=>c = (none,())/\RI κ kd a₀ lo st6/\Part κ (arrOf st2).toList (arrOf st6).toList 0 lo)
     (Q:=fun c st6=>c = (none,())/\RI κ kd a₀ lo st6/\Part κ (arrOf st2).toList (arrOf st6).toList 0 lo) ?stc2 (fun _ _ z=>z) ⟨rfl,R5,Part.refl _ _ _⟩) ?poc2)
    case stc2 =>
     rintro x' c st6 _ _ ⟨rfl,R6,P6⟩
     try dsimp only
     refine wpS_bind (wpS_get ?_)
     by_cases hp1:(pendingOf st6).size > 1
     ·rw [if_pos hp1]
      obtain ⟨⟨u1,u2,ol⟩,hu⟩:∃ y,(pendingOf st6)[(pendingOf st6).size - 2]? = some y:=⟨_,getElem?_pos _ _ (by omega)⟩
      rw [hu]
      dsimp only
      by_cases hol:ol<=pw
      ·rw [if_pos hol]
       exact wpS_pure ⟨rfl,R6,P6⟩
      rw [if_neg hol]
      refine wpS_bind (Il C h0 R6 h1 (by omega) fun st7 R7 _ P7=>?_)
      simp only [Bool.not_true,Bool.false_eq_true,if_false]
      exact wpS_pure ⟨rfl,R7,⟨P7.perm.trans P6.perm,rfl,P7.back.trans P6.back⟩⟩
     ·rw [if_neg hp1]
      exact wpS_pure ⟨rfl,R6,P6⟩
    case poc2 =>
     rintro c st6 ⟨rfl,R6,P6⟩
     dsimp only
     refine wpS_bind (wpS_modify (wpS_bind (wpS_modify (wpS_pure ⟨_,rfl,push _ (R6.congr Ao) ?_,by omega,by omega⟩))))
     show Sor κ (seg (arrOf st6).toList lo m)
     rw [P6.seg_back (by omega)]
     exact hs2.sor
end
end TS
namespace TS
open PySem PyProof.Rows
noncomputable def kd1 (κ:KeyKind) (v:Value):κ.α:=(κ.keyOf v).getD κ.dflt
section
variable {prog:Program} {w:World} {A:Around} {E:Value->Shared->Prop} {s:Shared} {κ:KeyKind} {kd:SortKind}
noncomputable def Ext (a:Addr) (s s':Shared):Prop:=∀ b o,b ≠ a->s.heap.get? b = some o->s'.heap.get? b = some o
structure Keys (prog:Program) (w:World) (a:Addr) (s:Shared) (κ:KeyKind) (kd:SortKind) (vs:List Value):Prop where
 cmp:∀ (A:Around) (s':Shared),Ext a s s'->Cmp prog w A s' κ kd
 key:∀ v ∈ vs,∃ k,κ.keyOf v = some k
 kind:2<=vs.length->∀ (A:Around) (E:Value->Shared->Prop) (s':Shared) (Q:SortKind->Shared->Prop),Ext a s s'->Q kd s'->wpAny (model prog w) A (keyKind' vs.toArray) Q E s'
noncomputable def Out (κ:KeyKind) (vs:List Value) (out:Array Value):Prop:=out.toList.Perm vs/\out.toList.Pairwise fun u v=>κ.kle (kd1 κ u) (kd1 κ v)
theorem Tl {vs:List Value} {xs:Array Keyed} (hp:xs.toList.Perm (pairsOf vs).toList) (hs:Sor κ xs.toList):Out κ vs (xs.map (·.2)):=by
 rw [pairsOf_toList] at hp
 have hm:∀ p ∈ xs.toList,p.1 = p.2:=fun p h=>(mem_zip_self (hp.mem_iff.mp h)).1
 have e:(xs.map (·.2)).toList = xs.toList.map (·.1):=by
  rw [Array.toList_map]; exact List.map_congr_left fun p h=>(hm p h).symm
 refine ⟨?_,?_⟩
 ·rw [e]
  have:=hp.map Prod.fst
  rwa [List.map_fst_zip (Nat.le_refl _)] at this
 ·rw [e,List.pairwise_map]
  exact hs
theorem Dd {a:Addr} {vs:List Value} {n:Nat} {P:Fin->Shared->Prop} (ho:s.heap.get? a = some (seqObj "list" vs.toArray n)) (hz:vs.length<=sizeLine) (K:Keys prog w a s κ kd vs)
  (h:∀ out:Array Value,Out κ vs out->P (.done (.ret .none)) { s with heap:=sortedHeap s.heap a vs out }) :
  wpAny (model prog w) A (Builtin.«list.sort» ⟨[.ref a],[]⟩) P E s:=by
 rw [list_sort_plain]
 have ha:a < s.heap.objs.size:=Heap.lt_size ho
 have hsz:vs.toArray.size = vs.length:=by simp
 refine wpAny_bind (listItems_at ho rfl ?_)
 refine wpAny_bind (listUpdate_at ho rfl ?_ (by rw [hsz]; exact hz) (by simp))
 obtain ⟨e1,ho1⟩:∃ e1,(s.heap.update a (Obj.mapSeq fun _=>#[])).get? a = some (seqObj "list" #[] e1):=⟨_,get?_update_seq ho (fun _=>#[])⟩
 refine wpAny_bind (seqEpoch_at ho1 rfl ?_)
 refine wpAny_bind (wpAny_newTuple ?_ (by simpa using hz))
 refine wpAny_bind (wpAny_newList ?_)
 refine wpAny_holding ?_
 have ho6:(((s.heap.update a (Obj.mapSeq fun _=>#[])).push (seqObj "tuple" vs.toArray 0)).push (seqObj "list" #[] 0)).get? a = some (seqObj "list" #[] e1):=by
  rw [Heap.get?_push_ne _ _ _ (by rw [size_push',Heap.size_update]; exact Nat.ne_of_lt (Nat.lt_succ_of_lt ha)),Heap.get?_push_ne _ _ _ (by rw [Heap.size_update]; exact Nat.ne_of_lt ha)]
  exact ho1
 show wpAny (model prog w) A _ P E { s with heap:=((s.heap.update a (Obj.mapSeq fun _=>#[])).push (seqObj "tuple" vs.toArray 0)).push (seqObj "list" #[] 0) }
 dsimp only
 have hE:Ext a s { s with heap:=((s.heap.update a (Obj.mapSeq fun _=>#[])).push (seqObj "tuple" vs.toArray 0)).push (seqObj "list" #[] 0) }:=fun b o hb e =>
  Heap.get?_push_of_some _ (Heap.get?_push_of_some _ ((Heap.get?_update_other s.heap _ (Ne.symm hb)).trans e))
 by_cases h2:vs.toArray.size < 2
 ·rw [if_pos h2,if_pos h2]
  refine wpAny_bind (wpAny_pure ?_)
  rw [StateT.run_pure]
  refine wpAny_bind (wpAny_pure ?_)
  dsimp only
  refine wpAny_bind (seqEpoch_at ho6 rfl ?_)
  refine wpAny_bind (listUpdate_at ho6 rfl ?_ (by simp) (by rw [Array.size_map]; show (pairsOf vs).size<=_; rw [pairsOf_size]; omega))
  simp only [bne_self_eq_false,Bool.false_eq_true,if_false]
  refine wpAny_pure (h _ (Tl (κ:=κ) (xs:=pairsOf vs) (List.Perm.refl _) ?_))
  rw [pairsOf_toList]
  rw [hsz] at h2
  match vs,h2 with
  | [],_=>exact List.Pairwise.nil
  | [v],_=>exact List.pairwise_singleton _ _
  | _ :: _ :: _,h2=>simp at h2; omega
 ·rw [if_neg h2,if_neg h2]
  refine wpAny_bind (K.kind (by omega) A E _ _ hE ?_)
  refine wpAny_bind (wpAny_mono (Du (K.cmp A _ hE) (a₀:=pairsOf vs) (st:=SortSt.mk' kd (vs.toArray.zip vs.toArray) #[] 7 none)
   (Q:=fun _ st'=>St κ kd (pairsOf vs) st'/\Sor κ (arrOf st').toList)
   (fun p hp=>?_) ⟨List.Perm.refl _,rfl,rfl⟩ rfl fun st' a1 a2=>⟨a1,a2⟩) ?_ fun _ _ e=>e)
  ·rw [pairsOf_toList] at hp
   exact K.key _ (mem_zip_self hp).2
  rintro ⟨⟨⟩,st'⟩ s' ⟨rfl,hp,hs⟩
  dsimp only
  refine wpAny_bind (seqEpoch_at ho6 rfl ?_)
  refine wpAny_bind (listUpdate_at ho6 rfl ?_ (by simp) (by rw [Array.size_map]; show (arrOf st').size<=_; rw [hp.size,pairsOf_size]; omega))
  rw [show failedOf st' = none from hp.failed]
  simp only [bne_self_eq_false,Bool.false_eq_true,if_false]
  exact wpAny_pure (h _ (Tl hp.perm hs))
theorem sorted_gen {x:Value} {Q:Value->Shared->Prop}
  (hc:wpAny (model prog w) A.in1 (collect x) (fun vs s1=>s1.os = s.os/\vs.length<=sizeLine/\(∃ (κ:KeyKind) (kd:SortKind),(∀ s2:Shared,Ext s1.heap.objs.size s1 s2->Keys prog w s1.heap.objs.size s2 κ kd vs) /\
   ∀ (out:Array Value) (h':Heap) (e:Nat),Out κ vs out->(∀ b o,s1.heap.get? b = some o->h'.get? b = some o)->h'.get? s1.heap.objs.size = some (seqObj "list" out e)->Q (.ref s1.heap.objs.size) { s1 with heap:=h' })) E s) :
  wpAny (model prog w) A (call (.builtin "sorted") [x]) Q E s:=by
 refine Calls.call_function_entry kind_sorted plain_sorted entry_sorted (args_sorted1 _) ?_
 unfold Builtin.«sorted»
 refine wpAny_bind (m:=checkCount "sorted" 1 1 _) (wpAny_pure ?_)
 refine wpAny_bind (wpAny_mono hc (fun vs s1 ⟨eos,hz,κ,kd,K,q⟩=>?_) fun _ _ z=>z)
 refine wpAny_bind (wpAny_newList ?_)
 have hoL:(s1.heap.push (seqObj "list" vs.toArray 0)).get? s1.heap.objs.size = some (seqObj "list" vs.toArray 0):=Heap.get?_push_size _ rfl
 show wpAny _ _ _ _ _ { s1 with heap:=s1.heap.push (seqObj "list" vs.toArray 0) }
 have hE:Ext s1.heap.objs.size s1 { s1 with heap:=s1.heap.push (seqObj "list" vs.toArray 0) }:=fun b o _ e=>Heap.get?_push_of_some _ e
 refine wpAny_bind (wpAny_holding (wpAny_call_entry slot_list_sort ⟨_,hoL,rfl⟩ entry_list_sort (Dd (s:={ s1 with heap:=s1.heap.push (seqObj "list" vs.toArray 0) }) hoL hz (K _ hE) fun out ho=>⟨_,rfl,?_⟩) (args_list_sort _)))
 obtain ⟨e,he⟩:=sortedHeap_at (h:=s1.heap.push (seqObj "list" vs.toArray 0)) (out:=out) hoL
 refine wpAny_pure ⟨_,rfl,q out _ e ho (fun b o eb=>?_) he⟩
 have hlt:=Heap.lt_size eb
 rw [sortedHeap_old (Nat.ne_of_lt hlt) (by rw [size_push']; exact Nat.lt_succ_of_lt hlt)]
 exact Heap.get?_push_of_some _ eb
theorem keys_strs {a:Addr} {vs:List Value} {ss:List Str} (hS:StrsAre vs ss):Keys prog w a s strKind oneType' vs:=by
 refine ⟨fun A s' _=>⟨fun x y k l Q E hx hy q=>?_⟩,fun v hv=>?_,fun h2 A E s' Q _ q=>?_⟩
 ·rw [keyLt'_oneType]
  exact strKind_oneLt prog w A E s' x y k l hx hy q
 ·obtain ⟨x,t,rfl⟩:=hS.all v hv
  exact ⟨_,rfl⟩
 ·match vs,h2,hS with
  | v1 :: v2 :: r,_,hS =>
   rw [keyKind_strs hS]
   exact wpAny_pure q
noncomputable def pairLt (a b:List Nat × List Nat):Bool:=decide (a.1 < b.1) || (decide (a.1 = b.1) && decide (a.2 < b.2))
theorem pairLt_iff {a b:List Nat × List Nat}:pairLt a b = true ↔ a.1 < b.1\/(a.1 = b.1/\a.2 < b.2):=by
 unfold pairLt
 simp
theorem tri (a b:List Nat):a < b\/a = b\/b < a:=by
 by_cases h:a < b
 ·exact .inl h
 ·by_cases h':b < a
  ·exact .inr (.inr h')
  ·exact .inr (.inl (List.le_antisymm (List.not_lt.mp h') (List.not_lt.mp h)))
noncomputable def Ox:List Value->Option (List Nat × List Nat)
 | [.str x _,.str y _]=>some (x.cps.toList,y.cps.toList)
 | _=>none
noncomputable def Nu (c:Value):Data->Option (List Nat × List Nat)
 | .seq xs _=>if c = .type "tuple" then Ox xs.toList else none
 | _=>none
noncomputable def pairOf (h:Heap):Value->Option (List Nat × List Nat)
 | .ref p=>(h.get? p).bind fun o=>Nu o.cls o.data
 | _=>none
@[reducible] noncomputable def pairKind (h:Heap):KeyKind where
 α:=List Nat × List Nat
 blt:=pairLt
 irrefl a:=by
  rw [Bool.eq_false_iff]
  intro z
  rcases pairLt_iff.mp z with z | ⟨_,z⟩
  ·exact List.lt_irrefl _ z
  ·exact List.lt_irrefl _ z
 trans a b c h1 h2:=by
  rw [pairLt_iff] at *
  rcases h1 with h1 | ⟨h1,h1'⟩
  ·rcases h2 with h2 | ⟨h2,_⟩
   ·exact .inl (List.lt_trans h1 h2)
   ·exact .inl (h2 ▸ h1)
  ·rcases h2 with h2 | ⟨h2,h2'⟩
   ·exact .inl (h1 ▸ h2)
   ·exact .inr ⟨h1.trans h2,List.lt_trans h1' h2'⟩
 negTrans a b c h:=by
  rw [pairLt_iff] at h
  simp only [pairLt_iff]
  rcases h with h | ⟨h,h'⟩
  ·rcases tri a.1 b.1 with q | q | q
   ·exact .inl (.inl q)
   ·exact .inr (.inl (q ▸ h))
   ·exact .inr (.inl (List.lt_trans q h))
  ·rcases tri a.1 b.1 with q | q | q
   ·exact .inl (.inl q)
   ·rcases tri a.2 b.2 with r | r | r
    ·exact .inl (.inr ⟨q,r⟩)
    ·exact .inr (.inr ⟨q ▸ h,r ▸ h'⟩)
    ·exact .inr (.inr ⟨q ▸ h,List.lt_trans r h'⟩)
   ·exact .inr (.inl (h ▸ q))
 total a b h1 h2:=by
  rw [Bool.eq_false_iff] at h1 h2
  rcases tri a.1 b.1 with q | q | q
  ·exact absurd (pairLt_iff.mpr (.inl q)) h1
  ·rcases tri a.2 b.2 with r | r | r
   ·exact absurd (pairLt_iff.mpr (.inr ⟨q,r⟩)) h1
   ·exact Prod.ext q r
   ·exact absurd (pairLt_iff.mpr (.inr ⟨q.symm,r⟩)) h2
  ·exact absurd (pairLt_iff.mpr (.inl q)) h2
 keyOf:=pairOf h
 dflt:=([],[])
noncomputable def PairAt (h:Heap) (v:Value) (x y:Str):Prop:=∃ p o n t u,v = .ref p/\h.get? p = some o/\o.cls = .type "tuple"/\o.data = .seq #[.str x t,.str y u] n
theorem PairAt.key {h:Heap} {v:Value} {x y:Str} (z:PairAt h v x y):pairOf h v = some (x.cps.toList,y.cps.toList):=by
 obtain ⟨p,o,n,t,u,rfl,e,c,d⟩:=z
 show (h.get? p).bind (fun o=>Nu o.cls o.data) = _
 rw [e]
 show Nu o.cls o.data = _
 rw [d,c]
 unfold Nu
 exact (if_pos rfl).trans rfl
theorem Zt {l:List Value} {k:List Nat × List Nat} (e:Ox l = some k):∃ x t y u,l = [.str x t,.str y u]:=by
 match l,e with
 | [.str x t,.str y u],_=>exact ⟨x,t,y,u,rfl⟩
theorem Mq {h:Heap} {v:Value} {k:List Nat × List Nat} (e:pairOf h v = some k):∃ x y,PairAt h v x y:=by
 match v,e with
 | .ref p,e =>
  have e':(h.get? p).bind (fun o=>Nu o.cls o.data) = some k:=e
  obtain ⟨o,ho,es⟩:=Option.bind_eq_some_iff.mp e'
  cases d:o.data with
  | seq xs n =>
   rw [d] at es
   have es':(if o.cls = .type "tuple" then Ox xs.toList else none) = some k:=es
   by_cases c:o.cls = .type "tuple"
   ·rw [if_pos c] at es'
    obtain ⟨x,t,y,u,el⟩:=Zt es'
    refine ⟨x,y,p,o,n,t,u,rfl,ho,c,?_⟩
    rw [d]
    have:xs = #[.str x t,.str y u]:=by rw [<-Array.toList_inj,el]
    rw [this]
   ·rw [if_neg c] at es'; cases es'
  | _=>rw [d] at es; cases es
theorem Jy {h:Heap} {v:Value} {k:List Nat × List Nat} {x y:Str} (z:PairAt h v x y) (e:pairOf h v = some k):k = (x.cps.toList,y.cps.toList):=by
 rw [z.key] at e
 exact (Option.some.inj e).symm
theorem keys_pairs {a:Addr} {vs:List Value} {h0:Heap} (hv:∀ v ∈ vs,∃ x y,PairAt h0 v x y) (hk:∀ b o,h0.get? b = some o->b ≠ a/\s.heap.get? b = some o) :
  Keys prog w a s (pairKind h0) (tuples' true) vs:=by
 refine ⟨fun A s' hE=>⟨fun x y k l Q E hx hy q=>?_⟩,fun v hvm=>?_,fun h2 A E s' Q hE q=>?_⟩
 ·obtain ⟨x1,x2,zx⟩:=Mq hx
  obtain ⟨y1,y2,zy⟩:=Mq hy
  have ek:=Jy zx hx
  have el:=Jy zy hy
  subst ek el
  obtain ⟨px,ox,nx,t1,u1,rfl,e1,_,d1⟩:=zx
  obtain ⟨py,oy,ny,t2,u2,rfl,e2,_,d2⟩:=zy
  have f1:=hE _ _ (hk _ _ e1).1 (hk _ _ e1).2
  have f2:=hE _ _ (hk _ _ e2).1 (hk _ _ e2).2
  refine PySem.W.kat_lt f1 d1 f2 d2 ?_
  show PySem.W.KatLex prog w A true _ Q [(.str x1 t1,.str y1 t2),(.str x2 u1,.str y2 u2)] 0 s'
  refine PySem.W.kat_cons (wpAny_eqBool_str (PySem.W.kat_go (fun he=>?_) fun he=>?_))
  ·have he:x1 = y1:=by simpa using he
   refine PySem.W.kat_yes (PySem.W.kat_cons (wpAny_eqBool_str (PySem.W.kat_go (fun he2=>?_) fun he2=>?_)))
   ·have he2:x2 = y2:=by simpa using he2
    refine PySem.W.kat_yes (PySem.W.kat_nil ?_)
    have:pairLt (x1.cps.toList,x2.cps.toList) (y1.cps.toList,y2.cps.toList) = decide (2 < 2):=by
     rw [he,he2]
     exact (pairKind h0).irrefl (y1.cps.toList,y2.cps.toList)
    show Q (decide (2 < 2)) s'
    rw [<-this]
    exact q
   ·refine PySem.W.kat_no (PySem.W.kat_one _ _ (lt_str ?_))
    have:pairLt (x1.cps.toList,x2.cps.toList) (y1.cps.toList,y2.cps.toList) = decide (x2.cps.toList < y2.cps.toList):=by
     rw [he]
     unfold pairLt
     simp [List.lt_irrefl]
    show Q (decide (x2.cps.toList < y2.cps.toList)) s'
    rw [<-this]
    exact q
  ·have he:¬ x1 = y1:=by simpa using he
   refine PySem.W.kat_no (oneLt_str ?_)
   have hne:¬ x1.cps.toList = y1.cps.toList:=fun z=>he (by cases x1; cases y1; simp at z; simp [z])
   have:pairLt (x1.cps.toList,x2.cps.toList) (y1.cps.toList,y2.cps.toList) = decide (x1.cps.toList < y1.cps.toList):=by
    unfold pairLt
    simp [hne]
   rw [<-this]
   exact q
 ·obtain ⟨x,y,z⟩:=hv v hvm
  exact ⟨_,z.key⟩
 ·have hT:∀ (us:List Value),(∀ v ∈ us,∃ x y,PairAt h0 v x y)->∃ fs,PySem.W.KatTups s'.heap us fs/\fs.length = us.length/\∀ v ∈ fs,∃ x t,v = .str x t:=by
   intro us
   induction us with
   | nil=>exact fun _=>⟨[],.nil,rfl,fun v hv=>by simp at hv⟩
   | cons v r ih =>
    intro hus
    obtain ⟨fs,g1,g2,g3⟩:=ih fun u hu=>hus u (List.mem_cons_of_mem _ hu)
    obtain ⟨x,y,p,o,n,t,u,rfl,e,c,d⟩:=hus v (List.mem_cons_self ..)
    refine ⟨.str x t :: fs,.cons (hE _ _ (hk _ _ e).1 (hk _ _ e).2) c d rfl g1,by simp [g2],fun z hz=>?_⟩
    rcases List.mem_cons.mp hz with rfl | hz
    ·exact ⟨x,t,rfl⟩
    ·exact g3 z hz
  obtain ⟨fs,g1,g2,g3⟩:=hT vs hv
  refine PySem.W.kat_kind (T:=.type "str") g1 (by omega) (fun v hv=>?_) (by rfl) q
  obtain ⟨x,t,rfl⟩:=g3 v hv
  exact .now
end
end TS
set_option Elab.async false
namespace L2
open PySem PySem.Spec PyProof.Rows
noncomputable abbrev Key:=Sum Int Str
noncomputable def Gh:Key->Value->Bool
 | .inl k,v=>Value.isInt k v
 | .inr x,v=>Value.isStrOf x v
noncomputable def zDe (w:World):Key->Int
 | .inl k=>hashInt k
 | .inr x=>hashStr w x
theorem E1:∀ {k:Key} {v:Value},Gh k v = true->(∃ i t,k = Sum.inl i/\v = Value.int i t)\/(∃ x t,k = Sum.inr x/\v = Value.str x t)
 | .inl i,v,h=>by
  obtain ⟨t,e⟩:=Value.isInt_shape (k:=i) (v:=v) h
  exact .inl ⟨i,t,rfl,e⟩
 | .inr x,v,h=>by
  obtain ⟨t,e⟩:=Value.isStrOf_shape (x:=x) (v:=v) h
  exact .inr ⟨x,t,rfl,e⟩
theorem Oo (i:Int) (t:Tok):Gh (.inl i) (.int i t) = true:=by simp [Gh,Value.isInt]
theorem X7 (x:Str) (t:Tok):Gh (.inr x) (.str x t) = true:=by simp [Gh,Value.isStrOf]
theorem Zv (a b:Int):decide ((Sum.inl a:Key) = Sum.inl b) = (a == b):=by
 by_cases e:a = b
 ·subst e; simp
 ·have h:¬ (Sum.inl a:Key) = Sum.inl b:=fun q=>e (Sum.inl.inj q)
  rw [decide_eq_false h]
  exact (beq_eq_false_iff_ne.mpr e).symm
theorem Yx (a b:Str):decide ((Sum.inr a:Key) = Sum.inr b) = decide (a = b):=by
 by_cases e:a = b
 ·subst e; simp
 ·have h:¬ (Sum.inr a:Key) = Sum.inr b:=fun q=>e (Sum.inr.inj q)
  rw [decide_eq_false h,decide_eq_false e]
theorem Zy (a:Int) (b:Str):decide ((Sum.inl a:Key) = Sum.inr b) = false:=decide_eq_false (fun q=>nomatch q)
theorem Zp (a:Str) (b:Int):decide ((Sum.inr a:Key) = Sum.inl b) = false:=decide_eq_false (fun q=>nomatch q)
noncomputable def C2 (prog:Program) (w:World):PySem.KeyKind prog w Key where
 is:=Gh
 hash:=zDe w
 inj:=fun v a b ha hb=>by
  rcases E1 ha with ⟨i,t,rfl,rfl⟩ | ⟨x,t,rfl,rfl⟩
  ·rcases E1 hb with ⟨j,u,rfl,e⟩ | ⟨y,u,rfl,e⟩
   ·injection e with e1 _; rw [e1]
   ·exact nomatch e
  ·rcases E1 hb with ⟨j,u,rfl,e⟩ | ⟨y,u,rfl,e⟩
   ·exact nomatch e
   ·injection e with e1 _; rw [e1]
 byValue:=fun k v h=>by
  rcases E1 h with ⟨i,t,rfl,rfl⟩ | ⟨x,t,rfl,rfl⟩ <;> rfl
 pyHash:=fun hv h=>by
  rcases E1 hv with ⟨i,t,rfl,rfl⟩ | ⟨x,t,rfl,rfl⟩
  ·exact wpAny_pyHash_int h
  ·exact wpAny_pyHash_str h
 eqBool:=fun hu hv h=>by
  rcases E1 hu with ⟨i,t,rfl,rfl⟩ | ⟨x,t,rfl,rfl⟩
  ·rcases E1 hv with ⟨j,u,rfl,rfl⟩ | ⟨y,u,rfl,rfl⟩
   ·rw [Zv] at h; exact wpAny_eqBool_int h
   ·rw [Zy] at h; exact SeqAt.EqAt.int_str i t y u _ _ _ _ h
  ·rcases E1 hv with ⟨j,u,rfl,rfl⟩ | ⟨y,u,rfl,rfl⟩
   ·rw [Zp] at h; exact SeqAt.EqAt.str_int x t j u _ _ _ _ h
   ·rw [Yx] at h; exact wpAny_eqBool_str h
 «strs»:=fun k x t v h=>by
  rcases E1 h with ⟨i,u,rfl,e⟩ | ⟨y,u,rfl,e⟩
  ·exact nomatch e
  ·injection e with e1 _
   subst e1
   cases v <;> rfl
theorem Ij (prog:Program) (w:World) (i:Int) (t:Tok):(C2 prog w).is (.inl i) (.int i t) = true:=Oo i t
theorem Ik (prog:Program) (w:World) (x:Str) (t:Tok):(C2 prog w).is (.inr x) (.str x t) = true:=X7 x t
end L2
namespace L2
open PySem PySem.Spec PyProof.Rows
inductive V where
 | non | bl (b:Bool) | int (i:Int) | str (x:Str) | byt (b:Array UInt8) | flt (b:UInt64) | ref (a:Addr) | ty (n:String)
 deriving DecidableEq
noncomputable def RelV:V->Value->Prop
 | .non,u=>u = Value.none
 | .bl b,u=>u = Value.bool b
 | .int i,u=>∃ t,u = Value.int i t
 | .str x,u=>∃ t,u = Value.str x t
 | .byt b,u=>∃ t,u = Value.bytes b t
 | .flt b,u=>∃ t,u = Value.float b t
 | .ref a,u=>u = Value.ref a
 | .ty n,u=>u = Value.type n
noncomputable abbrev Vals:List V->List Value->Prop:=Paired RelV
theorem Vals.length {xs:List V} {us:List Value} (r:Vals xs us):xs.length = us.length:=Paired.length r
theorem Vals.get:∀ {xs:List V} {us:List Value} {i:Nat} {x:V},Vals xs us->xs[i]? = some x->∃ u,us[i]? = some u/\RelV x u
 | _,_,_,_,.nil,e=>by simp at e
 | _,_,0,_,.cons r _,e=>by simp at e; subst e; exact ⟨_,rfl,r⟩
 | _,_,i + 1,x,.cons _ t,e=>by
  obtain ⟨u,h1,h2⟩:=Vals.get (i:=i) (x:=x) t (by simpa using e)
  exact ⟨u,by simpa using h1,h2⟩
theorem Vals.set {x:V} {u:Value} (r:RelV x u):∀ {xs:List V} {us:List Value} (i:Nat),Vals xs us->Vals (xs.set i x) (us.set i u)
 | _,_,_,.nil=>.nil
 | _,_,0,.cons _ t=>.cons r t
 | _,_,i + 1,.cons q t=>.cons q (Vals.set r i t)
theorem Vals.append:∀ {xs ys:List V} {us ws:List Value},Vals xs us->Vals ys ws->Vals (xs ++ ys) (us ++ ws)
 | _,_,_,_,.nil,s=>s
 | _,_,_,_,.cons r t,s=>.cons r (Vals.append t s)
theorem Vals.take:∀ {xs:List V} {us:List Value} (n:Nat),Vals xs us->Vals (xs.take n) (us.take n)
 | _,_,0,_=>.nil
 | _,_,_ + 1,.nil=>.nil
 | _,_,n + 1,.cons r t=>.cons r (Vals.take n t)
theorem Vals.drop:∀ {xs:List V} {us:List Value} (n:Nat),Vals xs us->Vals (xs.drop n) (us.drop n)
 | _,_,0,r=>r
 | _,_,_ + 1,.nil=>.nil
 | _,_,n + 1,.cons _ t=>Vals.drop n t
theorem Vals.none_of:∀ {xs:List V} {us:List Value} {i:Nat},Vals xs us->xs[i]? = none->us[i]? = none:=fun {xs us i} r e=>by
 have h1:=r.length
 have h2:xs.length<=i:=List.getElem?_eq_none_iff.mp e
 exact List.getElem?_eq_none_iff.mpr (by omega)
noncomputable def RelO:Option V->Option Value->Prop
 | some v,some u=>RelV v u
 | none,none=>True
 | _,_=>False
noncomputable def KV {κ:Type}:List (κ × V)->List (κ × Value)->Prop:=Paired fun (p:κ × V) (q:κ × Value)=>p.1 = q.1/\RelV p.2 q.2
noncomputable def kV:Key->V
 | .inl i=>.int i
 | .inr x=>.str x
inductive HO where
 | lst (xs:List V)
 | tup (xs:List V)
 | dK (kvs:List (Key × V)) | dT (kvs:List (List Key × V))
 | set (S:Int->Bool) (n:Nat)
 | ins (C dx:Addr) (fs:List (Str × V))
 | own (x:Addr)
 | xd (fs:List (Str × V))
 | met (f x:Addr)
 | rng (lo hi:Int)
 | frz (o:Obj) (u:HO)
 | tbl (ps:Array Value)
 | ext (φ:Heap->Prop)
set_option genInjectivity false
noncomputable abbrev Hp:=Addr->Option HO
noncomputable def upd (H:Hp) (a:Addr) (o:HO):Hp:=fun b=>if b = a then some o else H b
theorem A7 {H:Hp} {a:Addr} {o:HO}:upd H a o a = some o:=by unfold upd; rw [if_pos rfl]
theorem B2 {H:Hp} {a b:Addr} {o:HO} (h:b ≠ a):upd H a o b = H b:=by unfold upd; rw [if_neg h]
theorem r8 {H:Hp} {a:Addr} {o u:HO}:upd (upd H a o) a u = upd H a u:=by
 funext b; unfold upd; split <;> rfl
theorem M8 {H:Hp} {a b:Addr} {o u:HO} (h:H a = some o) (h':H b = some u) (d:o ≠ u):a ≠ b:=by
 intro e; subst e; rw [h] at h'; exact d (Option.some.inj h')
theorem A8 {H:Hp} {a b:Addr} {o:HO} (h:H a = some o) (h':H b = none):a ≠ b:=by
 intro e; subst e; rw [h] at h'; cases h'
section
variable (P:Program) (w:World)
noncomputable def ObjOk (H:Hp) (h:Heap) (a:Addr):HO->Prop
 | .lst xs=>xs.length<=sizeLine/\∃ (its:List Value) (n:Nat),Vals xs its/\h.get? a = some { cls:=.type "list",data:=.seq its.toArray n }
 | .tup xs=>xs.length<=sizeLine/\∃ its:List Value,Vals xs its/\IsTup h a its.toArray
 | .dK kvs=>kvs.length<=sizeLine/\(a == sysModules) = false/\∃ vs,KV kvs vs/\h.DictOf (C2 P w) a vs
 | .dT kvs=>kvs.length<=sizeLine/\(a == sysModules) = false/\∃ xs:List (List Key × Addr × Value),
   Paired (fun (p:List Key × V) (q:List Key × Addr × Value)=>p.1 = q.1/\H q.2.1 = some (.tup (p.1.map kV))/\RelV p.2 q.2.2) kvs xs /\
   ∃ o es ep,h.get? a = some o/\o.ExactDict/\o.data = .dict es ep/\es.toList = xs.map (entryOfKey (tupleKind (C2 P w)))/\(xs.map (·.1)).Nodup
 | .set S n=>h.SetOf (intKind P w) a S n
 | .ins C dx fs=>H dx = some (.own a)/\fs.length<=1000/\dx ≠ a/\h.get? a = some (PySem.W.instObj C dx) /\
   ∃ mA,h.Ns1 dx mA/\(∀ f,RelO (fs.lookup f) (mA f))/\PySem.Within mA (fs.map (·.1))
 | .own _=>∃ o,h.get? a = some o
 | .xd fs=>∃ mA,h.Ns1 a mA/\∀ f,RelO (fs.lookup f) (mA f)
 | .rng lo hi=>∃ t u v,h.get? a = some { cls:=.type "range",data:=.fields #[.int lo t,.int hi u,.int 1 v] }
 | .frz o u=>h.get? a = some o/\ObjOk H h a u
 | .tbl ps=>h.get? a = some { cls:=.none,data:=.fields ps }
 | .met f x=>h.get? a = some (PySem.W.methodObj (.ref f) (.ref x))
 | .ext φ=>φ h/\(∃ o,h.get? a = some o)/\∀ h1 h2:Heap,φ h1->(∀ o,h1.get? a = some o->h2.get? a = some o)->φ h2
noncomputable def HOk (H:Hp) (h:Heap):Prop:=∀ a o,H a = some o->ObjOk P w H h a o
end
section
variable {P:Program} {w:World} {H H':Hp} {h h':Heap} {a:Addr} {o:HO}
theorem ObjOk.lt (x:ObjOk P w H h a o):a < h.objs.size:=by
 cases o with
 | lst xs=>obtain ⟨_,_,_,_,e⟩:=x; exact Heap.lt_size e
 | tup xs=>obtain ⟨_,_,_,p⟩:=x; exact p.lt
 | dK kvs=>obtain ⟨_,_,_,_,o,_,_,e,_⟩:=x; exact Heap.lt_size e
 | dT kvs=>obtain ⟨_,_,_,_,o,_,_,e,_⟩:=x; exact Heap.lt_size e
 | set S n=>obtain ⟨o,_,_,_,e,_⟩:=x; exact Heap.lt_size e
 | ins C dx fs=>obtain ⟨_,_,_,e,_⟩:=x; exact Heap.lt_size e
 | own y=>obtain ⟨_,e⟩:=x; exact Heap.lt_size e
 | xd fs=>obtain ⟨_,⟨_,_,_,e,_⟩,_⟩:=x; exact Heap.lt_size e
 | rng lo hi=>obtain ⟨_,_,_,e⟩:=x; exact Heap.lt_size e
 | frz ob u=>obtain ⟨e,_⟩:=x; exact Heap.lt_size e
 | tbl ps=>exact Heap.lt_size (show h.get? a = some _ from x)
 | met f y=>exact Heap.lt_size (show h.get? a = some _ from x)
 | ext φ=>obtain ⟨_,⟨_,e⟩,_⟩:=x; exact Heap.lt_size e
theorem Paired.mapP {α β:Type} {F G:α->β->Prop}:∀ {l₁:List α} {l₂:List β},Paired F l₁ l₂->(∀ a b,F a b->G a b)->Paired G l₁ l₂
 | _,_,.nil,_=>.nil
 | _,_,.cons r t,f=>.cons (f _ _ r) (Paired.mapP t f)
theorem ObjOk.stay (x:ObjOk P w H h a o) (k:∀ b u,(b = a\/H b = some (.own a))->h.get? b = some u->h'.get? b = some u)
  (ho:∀ b,H b = some (.own a)->H' b = some (.own a)) (ht:∀ b xs,H b = some (.tup xs)->H' b = some (.tup xs)):ObjOk P w H' h' a o:=by
 induction o with
 | lst xs=>obtain ⟨z,its,n,r,e⟩:=x; exact ⟨z,its,n,r,k _ _ (.inl rfl) e⟩
 | tup xs=>obtain ⟨z,its,r,ob,e,c⟩:=x; exact ⟨z,its,r,ob,k _ _ (.inl rfl) e,c⟩
 | dK kvs=>obtain ⟨z,y,vs,r,ob,es,ep,e,c⟩:=x; exact ⟨z,y,vs,r,ob,es,ep,k _ _ (.inl rfl) e,c⟩
 | dT kvs =>
  obtain ⟨z,y,xs,r,ob,es,ep,e,c⟩:=x
  exact ⟨z,y,xs,Paired.mapP r fun p q z=>⟨z.1,ht _ _ z.2.1,z.2.2⟩,ob,es,ep,k _ _ (.inl rfl) e,c⟩
 | set S n=>obtain ⟨ob,es,ep,t,e,c⟩:=x; exact ⟨ob,es,ep,t,k _ _ (.inl rfl) e,c⟩
 | ins C dx fs =>
  obtain ⟨d,z,ne,e,mA,⟨od,es,ep,e2,c⟩,r⟩:=x
  exact ⟨ho _ d,z,ne,k _ _ (.inl rfl) e,mA,⟨od,es,ep,k _ _ (.inr d) e2,c⟩,r⟩
 | own y=>obtain ⟨ob,e⟩:=x; exact ⟨ob,k _ _ (.inl rfl) e⟩
 | xd fs=>obtain ⟨mA,⟨od,es,ep,e,c⟩,r⟩:=x; exact ⟨mA,⟨od,es,ep,k _ _ (.inl rfl) e,c⟩,r⟩
 | rng lo hi=>obtain ⟨t,u,v,e⟩:=x; exact ⟨t,u,v,k _ _ (.inl rfl) e⟩
 | frz ob u ih=>obtain ⟨e,q⟩:=x; exact ⟨k _ _ (.inl rfl) e,ih q⟩
 | tbl ps =>
  have e:h.get? a = some { cls:=.none,data:=.fields ps }:=x
  show h'.get? a = some { cls:=.none,data:=.fields ps }
  exact k a _ (.inl rfl) e
 | met f y =>
  have e:h.get? a = some (PySem.W.methodObj (.ref f) (.ref y)):=x
  show h'.get? a = some (PySem.W.methodObj (.ref f) (.ref y))
  exact k a _ (.inl rfl) e
 | ext φ=>obtain ⟨p,⟨o,e⟩,st⟩:=x; exact ⟨st _ _ p fun o q=>k _ _ (.inl rfl) q,⟨o,k _ _ (.inl rfl) e⟩,st⟩
theorem HOk.lt (x:HOk P w H h) (e:H a = some o):a < h.objs.size:=(x a o e).lt
theorem HOk.fresh (x:HOk P w H h) (e:h.objs.size<=a):H a = none:=by
 cases q:H a with
 | none=>rfl
 | some u=>exact absurd (Nat.lt_of_lt_of_le (x.lt q) e) (Nat.lt_irrefl _)
theorem HOk.kept (x:HOk P w H h) (k:∀ b u,h.get? b = some u->h'.get? b = some u):HOk P w H h':=fun a o e =>
 (x a o e).stay (fun b u _ q=>k b u q) (fun _ q=>q) fun _ _ q=>q
theorem HOk.laid (x:HOk P w H h) (k:∀ b u,h.get? b = some u->h'.get? b = some u) (hp:h.objs.size<=a) (new:ObjOk P w (upd H a o) h' a o):HOk P w (upd H a o) h':=fun b u e=>by
 have hn:=x.fresh hp
 by_cases hb:b = a
 ·subst hb; rw [A7] at e; cases e; exact new
 ·rw [B2 hb] at e
  exact (x b u e).stay (fun c v _ q=>k c v q) (fun c q=>by rw [B2 (A8 q hn)]; exact q) fun c xs q=>by rw [B2 (A8 q hn)]; exact q
end
noncomputable def Rd (H:Hp) (a:Addr) (u:HO):Prop:=H a = some u\/∃ o,H a = some (.frz o u)
theorem Rd.ok {P:Program} {w:World} {H:Hp} {h:Heap} {a:Addr} {u:HO} (r:Rd H a u) (x:HOk P w H h):ObjOk P w H h a u:=by
 rcases r with r | ⟨o,r⟩
 ·exact x a u r
 ·obtain ⟨_,q⟩:=x a _ r
  exact q
noncomputable def Mut:Option HO->Prop
 | some (.lst _)=>True
 | some (.dK _)=>True
 | some (.dT _)=>True
 | some (.set _ _)=>True
 | some (.ins _ _ _)=>True
 | some (.ext _)=>True
 | _=>False
section
variable {P:Program} {w:World} {H:Hp} {h h':Heap} {x e:Addr} {o':HO}
theorem HOk.write (ok:HOk P w H h) (mu:Mut (H x)) (he:e = x\/H e = some (.own x)) (k:∀ b u,b ≠ e->h.get? b = some u->h'.get? b = some u) (heo:∃ u,h'.get? e = some u)
  (new:ObjOk P w (upd H x o') h' x o'):HOk P w (upd H x o') h':=fun b u q=>by
 have nown:∀ c y,H c = some (.own y)->c ≠ x:=fun c y r z=>by subst z; rw [r] at mu; exact mu
 have ntup:∀ c xs,H c = some (.tup xs)->c ≠ x:=fun c xs r z=>by subst z; rw [r] at mu; exact mu
 by_cases hb:b = x
 ·subst hb; rw [A7] at q; cases q; exact new
 ·rw [B2 hb] at q
  by_cases hbe:b = e
  ·have q':H b = some (.own x):=by
    rcases he with z | z
    ·exact absurd (hbe.trans z) hb
    ·rw [hbe]; exact z
   rw [q] at q'; cases q'
   obtain ⟨v,hv⟩:=heo
   exact ⟨v,by rw [hbe]; exact hv⟩
  ·refine (ok b u q).stay (fun c v hc r=>k c v ?_ r) (fun c r=>by rw [B2 (nown c b r)]; exact r) fun c xs r=>by rw [B2 (ntup c xs r)]; exact r
   rcases hc with rfl | hc
   ·exact hbe
   ·rintro rfl
    rcases he with z | z
    ·exact nown c b hc z
    ·rw [hc] at z; cases z; exact hb rfl
end
structure Un (fs ex:List Addr) (H H':Hp) (h h':Heap):Prop where
 keep:∀ b o,h.get? b = some o->H b = none->b ∉ fs->b ∉ ex->h'.get? b = some o
 slot:∀ b o,h.get? b = some o->H b = none->b ∈ fs->b ∉ ex->∃ sl,h'.get? b = some { o with slots:=sl }
 free:∀ b o,h.get? b = some o->H b = none->b ∉ ex->H' b = none
 there:∀ b o,h.get? b = some o->b ∉ ex->∃ o',h'.get? b = some o'
 tups:∀ b xs,H b = some (.tup xs)->H' b = some (.tup xs)
 frzs:∀ b o u,H b = some (.frz o u)->H' b = some (.frz o u)
 tbls:∀ b ps,H b = some (.tbl ps)->∃ more,H' b = some (.tbl (ps ++ more))
section
variable {fs fs' ex ex':List Addr} {H H1 H2:Hp} {h h1 h2 h':Heap} {a x e:Addr} {o:HO}
theorem Un.any (u:Un fs ex H H1 h h1) {b:Addr} {ob:Obj} (q:h.get? b = some ob) (n:H b = none) (hx:b ∉ ex):∃ sl,h1.get? b = some { ob with slots:=sl }:=by
 by_cases hb:b ∈ fs
 ·exact u.slot b ob q n hb hx
 ·exact ⟨ob.slots,u.keep b ob q n hb hx⟩
theorem Un.kept (k:∀ b u,h.get? b = some u->h'.get? b = some u):Un fs ex H H h h' :=
 ⟨fun b ob q _ _ _=>k b ob q,fun b ob q _ _ _=>⟨ob.slots,k b ob q⟩,fun _ _ _ n _=>n,fun b ob q _=>⟨ob,k b ob q⟩,fun _ _ q=>q,fun _ _ _ q=>q,fun _ ps q=>⟨#[],by rw [q]; simp⟩⟩
theorem Un.refl:Un fs ex H H h h:=Un.kept fun _ _ q=>q
theorem Un.laid (k:∀ b u,h.get? b = some u->h'.get? b = some u) (hp:h.objs.size<=a) (hn:H a = none):Un fs ex H (upd H a o) h h' where
 keep:=fun b u q _ _ _=>k b u q
 slot:=fun b u q _ _ _=>⟨u.slots,k b u q⟩
 free:=fun b u q n _=>by rw [B2 (Nat.ne_of_lt (Nat.lt_of_lt_of_le (Heap.lt_size q) hp))]; exact n
 there:=fun b u q _=>⟨u,k b u q⟩
 tups:=fun b xs q=>by rw [B2 (A8 q hn)]; exact q
 frzs:=fun b u xs q=>by rw [B2 (A8 q hn)]; exact q
 tbls:=fun b ps q=>⟨#[],by rw [B2 (A8 q hn),q]; simp⟩
theorem Un.write (mu:Mut (H x)) (he:e = x\/H e = some (.own x)) (k:∀ b u,b ≠ e->h.get? b = some u->h'.get? b = some u) (heo:∃ u,h'.get? e = some u):Un fs ex H (upd H x o) h h':=by
 have hx:∀ b,H b = none->b ≠ x:=fun b n z=>by subst z; rw [n] at mu; exact mu
 have hb:∀ b,H b = none->b ≠ e:=fun b n z=>by
  subst z
  rcases he with r | r
  ·exact hx b n r
  ·rw [n] at r; cases r
 have hm:∀ b u,H b = some u->¬ Mut (some u)->b ≠ x:=fun b u q nm z=>by subst z; rw [q] at mu; exact nm mu
 refine ⟨fun b u q n _ _=>k b u (hb b n) q,fun b u q n _ _=>⟨u.slots,k b u (hb b n) q⟩,fun b u q n _=>by rw [B2 (hx b n)]; exact n,fun b u q _=>?_,
  fun b xs q=>by rw [B2 (hm b _ q fun z=>z)]; exact q,fun b u xs q=>by rw [B2 (hm b _ q fun z=>z)]; exact q,fun b ps q=>⟨#[],by rw [B2 (hm b _ q fun z=>z),q]; simp⟩⟩
 by_cases hbe:b = e
 ·subst hbe; exact heo
 ·exact ⟨u,k b u hbe q⟩
end
noncomputable def trk (h:Heap) (H:Hp):List Addr:=(List.range h.objs.size).filter fun a=>(H a).isSome
noncomputable def Sl (h:Heap) (H:Hp):Heap:=PySem.W.hideAll h (trk h H)
theorem Nh (h:Heap) (H:Hp):(Sl h H).objs.size = h.objs.size:=PySem.W.hideAll_size _ _
theorem Qn {h:Heap} {H:Hp} {b:Addr} {o:Obj} (e:h.get? b = some o) (n:H b = none):(Sl h H).get? b = some o :=
 PySem.W.hideAll_get _ e fun hm=>by
  have q:(H b).isSome = true:=(List.mem_filter.mp hm).2
  rw [n] at q; simp at q
theorem Vz {h:Heap} {H:Hp} {b:Addr} {o:Obj} (e:(Sl h H).get? b = some o):h.get? b = some o/\H b = none:=by
 have e':h.get? b = some o:=PySem.W.of_hideAll (trk h H) e
 refine ⟨e',?_⟩
 cases q:H b with
 | none=>rfl
 | some x =>
  have hm:b ∈ trk h H:=List.mem_filter.mpr ⟨List.mem_range.mpr (Heap.lt_size e'),by simp [q]⟩
  have z:(Sl h H).get? b = none:=PySem.W.hideAll_none (trk h H) hm
  rw [z] at e; cases e
end L2
namespace L2
open PySem PySem.Spec PyProof.Rows
structure Mod (K:PySem.W.Frag) (mg:Str->Option Value) (base:Heap):Prop where
 kin:K.In base
 glob:base.Ns mainGlobals mg
 blt:∃ mb,base.Ns builtinsNs mb/\∀ x:Str,x ≠ "__name__"->mb x = bootBuiltins x
 nolimit:base.NoLimit
structure Cx where
 prog:Program
 w:World
 K:PySem.W.Frag
 mg:Str->Option Value
 base:Heap
 A:Around
 N:List Str
 s₀:Shared
 H₀:Hp
 env:Env
 outer:List Env
 stack:List Env
 ex:List Addr
 fn:Str->Bool
 calm:Bool
 pn:List (Addr × Obj)
 xe:Value->Shared->Prop
noncomputable def frs (l:List Env):List Addr:=l.filterMap (·.frame)
noncomputable abbrev Cx.fs (X:Cx):List Addr:=frs X.outer
noncomputable def Vis (sc:Scope) (x:Str):Prop:=sc.names.lookup x = some .local\/sc.names.lookup x = some .cell\/sc.names.lookup x = some .free
noncomputable def Loc (sc:Scope) (x:Str):Prop:=sc.names.lookup x = some .local\/sc.names.lookup x = some .cell
noncomputable def zCp (env:Env) (h:Heap) (m:Str->Option Value) (x:Str) (u:Value):Prop :=
 (env.kindOf x = some .local/\m x = some u)\/((env.kindOf x = some .cell\/env.kindOf x = some .free)/\∃ c,env.cells.lookup x = some c/\h.IsCell c (some u))
structure Cx.Ok (X:Cx):Prop where
 mod:Mod X.K X.mg X.base
 kind:X.env.scope.kind = .function
 glob:X.env.globals = mainGlobals
 blt:X.env.builtins = builtinsNs
 above:X.s₀.heap.objs.size<=X.env.locals
 inj:∀ x y c,X.env.cells.lookup x = some c->X.env.cells.lookup y = some c->x = y
 has:∀ x,(X.env.kindOf x = some .cell\/X.env.kindOf x = some .free)->∃ c,X.env.cells.lookup x = some c
 cab:∀ x c,X.fn x = true->X.env.cells.lookup x = some c->X.s₀.heap.objs.size<=c
 hd:X.calm = true->X.A.handled = none
 frames:X.A.frames = some X.stack
 stk:X.stack = X.outer\/(X.stack = X.env :: X.outer/\X.env.frame = some X.env.locals)
 exf:∀ b ∈ X.ex,b ≠ X.env.locals/\∀ x c,X.env.cells.lookup x = some c->c ≠ b
 bs:∀ b o,X.base.get? b = some o->X.s₀.heap.get? b = some o/\X.H₀ b = none
 bsz:X.base.objs.size<=X.s₀.heap.objs.size
 noex:∀ b o,X.base.get? b = some o->b ∉ X.ex
 exfs:∀ b ∈ X.ex,b ∉ X.fs
 funs:X.s₀.heap.FunFrames X.base X.outer
 frf:∀ b ∈ X.fs,X.H₀ b = none
structure Inv (X:Cx) (pins:List (Addr × Obj)) (σ:List (Option V)) (H:Hp) (s:Shared):Prop where
 ok:X.Ok
 os:s.os = X.s₀.os
 bare:AllBare s.gens
 base:Un X.fs X.ex X.H₀ H X.s₀.heap s.heap
 loc:∃ m,s.heap.Ns X.env.locals m/\∀ (i:Nat) (x:Str) (v:V),X.N[i]? = some x->σ[i]? = some (some v)->Vis X.env.scope x->∃ u,RelV v u/\zCp X.env s.heap m x u
 cell:∀ x c,X.env.cells.lookup x = some c->∃ v,s.heap.IsCell c v
 free:H X.env.locals = none
 freeC:∀ x c,X.env.cells.lookup x = some c->H c = none
 pin:∀ p ∈ X.pn ++ pins,s.heap.get? p.1 = some p.2/\H p.1 = none/\p.1 ≠ X.env.locals/\p.1 ∉ X.fs/\∀ v,p.2.data ≠ .cell v
 hok:HOk X.prog X.w H s.heap
 len:σ.length = X.N.length
section
variable {X:Cx} {pins:List (Addr × Obj)} {σ:List (Option V)} {H H':Hp} {s:Shared} {h':Heap}
theorem Cx.Ok.nofr (ok:X.Ok) {b:Addr} {o:Obj} (e:X.base.get? b = some o):b ∉ X.fs:=fun hb=>by
 have:=(ok.funs.mem hb).1
 rw [e] at this; cases this
theorem Inv.bs (I:Inv X pins σ H s):∀ b o,X.base.get? b = some o->s.heap.get? b = some o/\H b = none:=fun b o e =>
 ⟨I.base.keep b o (I.ok.bs b o e).1 (I.ok.bs b o e).2 (I.ok.nofr e) (I.ok.noex b o e),I.base.free b o (I.ok.bs b o e).1 (I.ok.bs b o e).2 (I.ok.noex b o e)⟩
theorem Inv.bk (I:Inv X pins σ H s):∀ b o,X.base.get? b = some o->s.heap.get? b = some o:=fun b o e=>(I.bs b o e).1
theorem Inv.mod (I:Inv X pins σ H s):Mod X.K X.mg X.base:=I.ok.mod
theorem Inv.kIn (I:Inv X pins σ H s):X.K.In s.heap:=I.ok.mod.kin.keeps I.bk
theorem Inv.lt (I:Inv X pins σ H s):X.env.locals < s.heap.objs.size:=let ⟨_,hn,_⟩:=I.loc; hn.lt
theorem Inv.sz (I:Inv X pins σ H s):X.s₀.heap.objs.size<=s.heap.objs.size:=Nat.le_trans I.ok.above (Nat.le_of_lt I.lt)
theorem Inv.nofs (I:Inv X pins σ H s) {a:Addr} (h:s.heap.objs.size<=a):a ∉ X.fs:=fun hb=>by
 obtain ⟨_,o,ho,_⟩:=I.ok.funs.mem hb
 exact absurd (Nat.lt_of_lt_of_le (Heap.lt_size ho) (Nat.le_trans I.sz h)) (Nat.lt_irrefl _)
theorem Inv.cne (I:Inv X pins σ H s):∀ x c,X.env.cells.lookup x = some c->c ≠ X.env.locals:=fun x c e z=>by
 obtain ⟨v,o,ho,hd⟩:=I.cell x c e
 obtain ⟨m,⟨o',es,ep,ho',hd',_⟩,_⟩:=I.loc
 rw [z,ho'] at ho; cases ho; rw [hd'] at hd; cases hd
theorem Inv.funs (I:Inv X pins σ H s):s.heap.FunFrames X.base X.outer:=by
 have all:∀ (l:List Env),(∀ b ∈ frs l,b ∈ X.fs)->X.s₀.heap.FunFrames X.base l->s.heap.FunFrames X.base l:=by
  intro l
  induction l with
  | nil=>intro _ _; trivial
  | cons env r ih =>
   intro hs hl
   obtain ⟨hk,⟨L,o,hf,hn,ho,hd⟩,hr⟩:=hl
   have hL:L ∈ X.fs:=hs L (by unfold frs; rw [List.filterMap_cons,hf]; exact List.mem_cons_self)
   obtain ⟨sl,e⟩:=I.base.slot L o ho (I.ok.frf L hL) hL fun z=>I.ok.exfs L z hL
   exact ⟨hk,⟨L,_,hf,hn,e,hd⟩,ih (fun b hb=>hs b (by unfold frs; rw [List.filterMap_cons,hf]; exact List.mem_cons_of_mem _ hb)) hr⟩
 exact all X.outer (fun _ hb=>hb) I.ok.funs
theorem Inv.stack (I:Inv X pins σ H s):s.heap.FunFrames X.base X.stack:=by
 rcases I.ok.stk with e | ⟨e,hf⟩
 ·rw [e]; exact I.funs
 ·rw [e]
  obtain ⟨m,hn,_⟩:=I.loc
  refine .cons (by rw [I.ok.kind]; decide) hf hn ?_ I.funs
  exact Heap.get?_none_of_le (Nat.le_trans I.ok.bsz I.ok.above)
theorem Inv.stkSub (I:Inv X pins σ H s):∀ b ∈ frs X.stack,b ∈ X.env.locals :: X.fs:=fun b hb=>by
 rcases I.ok.stk with e | ⟨e,hf⟩
 ·rw [e] at hb; exact List.mem_cons_of_mem _ hb
 ·rw [e] at hb
  unfold frs at hb
  rw [List.filterMap_cons,hf] at hb
  exact hb
theorem Inv.stkFree (I:Inv X pins σ H s):∀ b ∈ frs X.stack,H b = none:=fun b hb=>by
 rcases List.mem_cons.mp (I.stkSub b hb) with e | hb
 ·rw [e]; exact I.free
 ·obtain ⟨_,o,ho,_⟩:=I.ok.funs.mem hb
  exact I.base.free b o ho (I.ok.frf b hb) fun z=>I.ok.exfs b z hb
theorem Inv.step {g':Array GenState} {t':Nat} {d':Drawn} {ch:List Addr} (I:Inv X pins σ H s)
  (hch:∀ b ∈ ch,(b ∈ X.ex\/X.s₀.heap.objs.size<=b)/\b ≠ X.env.locals/\(∀ x c,X.env.cells.lookup x = some c->c ≠ b)/\∀ p ∈ X.pn ++ pins,p.1 ≠ b)
  (keep:∀ b o,b ≠ X.env.locals->b ∉ X.fs->b ∉ ch->s.heap.get? b = some o->H b = none->h'.get? b = some o)
  (slot:∀ b o,b ≠ X.env.locals->b ∈ X.fs->b ∉ ch->s.heap.get? b = some o->H b = none->∃ sl,h'.get? b = some { o with slots:=sl }) (free:∀ b o,b ∉ ch->s.heap.get? b = some o->H b = none->H' b = none)
  (there:∀ b o,b ∉ ch->s.heap.get? b = some o->∃ o',h'.get? b = some o')
  (tups:∀ b xs,H b = some (.tup xs)->H' b = some (.tup xs)) (frzs:∀ b o u,H b = some (.frz o u)->H' b = some (.frz o u)) (tbls:∀ b ps,H b = some (.tbl ps)->∃ more,H' b = some (.tbl (ps ++ more)))
  (ns:∀ m,s.heap.Ns X.env.locals m->h'.Ns X.env.locals m) (hok:HOk X.prog X.w H' h') (hg:AllBare g') :
  Inv X pins σ H' { s with heap:=h',gens:=g',drawn:=d',toks:=t' }:=by
 have neL:∀ b o,X.s₀.heap.get? b = some o->b ≠ X.env.locals:=fun b o e=>Nat.ne_of_lt (Nat.lt_of_lt_of_le (Heap.lt_size e) I.ok.above)
 have neC:∀ b o,X.s₀.heap.get? b = some o->b ∉ X.ex->b ∉ ch:=fun b o e hx hb=>by
  rcases (hch b hb).1 with z | z
  ·exact hx z
  ·exact absurd (Nat.lt_of_lt_of_le (Heap.lt_size e) z) (Nat.lt_irrefl _)
 have cellK:∀ x c,X.env.cells.lookup x = some c->∀ v,s.heap.IsCell c v->h'.IsCell c v:=fun x c e v ⟨o,ho,hd⟩=>by
  have nch:c ∉ ch:=fun z=>(hch c z).2.2.1 x c e rfl
  by_cases hc:c ∈ X.fs
  ·obtain ⟨sl,q⟩:=slot c o (I.cne x c e) hc nch ho (I.freeC x c e)
   exact ⟨_,q,hd⟩
  ·exact ⟨o,keep c o (I.cne x c e) hc nch ho (I.freeC x c e),hd⟩
 refine ⟨I.ok,I.os,hg,⟨fun b o e n hb hx=>?_,fun b o e n hb hx=>?_,fun b o e n hx=>?_,fun b o e hx=>?_,fun b xs e=>tups b xs (I.base.tups b xs e),fun b o xs e=>frzs b o xs (I.base.frzs b o xs e),fun b ps e=>?_⟩,?_,fun x c e=>?_,?_,fun x c e=>?_,fun p hp=>?_,hok,I.len⟩
 ·exact keep b o (neL b o e) hb (neC b o e hx) (I.base.keep b o e n hb hx) (I.base.free b o e n hx)
 ·obtain ⟨sl,e1⟩:=I.base.slot b o e n hb hx
  obtain ⟨sl',e2⟩:=slot b _ (neL b o e) hb (neC b o e hx) e1 (I.base.free b o e n hx)
  exact ⟨sl',e2⟩
 ·obtain ⟨o',e1⟩:=I.base.there b o e hx
  exact free b o' (neC b o e hx) e1 (I.base.free b o e n hx)
 ·obtain ⟨o',e1⟩:=I.base.there b o e hx
  exact there b o' (neC b o e hx) e1
 ·obtain ⟨m1,e1⟩:=I.base.tbls b ps e
  obtain ⟨m2,e2⟩:=tbls b _ e1
  exact ⟨m1 ++ m2,by rw [e2,Array.append_assoc]⟩
 ·obtain ⟨m,hn,hl⟩:=I.loc
  refine ⟨m,ns m hn,fun i x v e1 e2 e3=>?_⟩
  obtain ⟨u,r,l⟩:=hl i x v e1 e2 e3
  refine ⟨u,r,?_⟩
  rcases l with l | ⟨k,c,e,z⟩
  ·exact .inl l
  ·exact .inr ⟨k,c,e,cellK x c e _ z⟩
 ·obtain ⟨v,z⟩:=I.cell x c e
  exact ⟨v,cellK x c e v z⟩
 ·obtain ⟨m,⟨o,_,_,ho,_⟩,_⟩:=I.loc
  exact free _ o (fun z=>(hch _ z).2.1 rfl) ho I.free
 ·obtain ⟨v,o,ho,hd⟩:=I.cell x c e
  exact free c o (fun z=>(hch c z).2.2.1 x c e rfl) ho (I.freeC x c e)
 ·obtain ⟨e,n,ne,nf,d⟩:=I.pin p hp
  have nch:p.1 ∉ ch:=fun z=>(hch p.1 z).2.2.2 p hp rfl
  exact ⟨keep p.1 p.2 ne nf nch e n,free p.1 p.2 nch e n,ne,nf,d⟩
theorem Inv.un {t':Nat} (I:Inv X pins σ H s) (u:Un X.fs [] H H' s.heap h') (hok:HOk X.prog X.w H' h'):Inv X pins σ H' { s with heap:=h',toks:=t' }:=by
 obtain ⟨m,⟨o,es,ep,ho,r⟩,_⟩:=id I.loc
 obtain ⟨sl,hL⟩:=u.any ho I.free (by simp)
 exact I.step (g':=s.gens) (d':=s.drawn) (ch:=[]) (fun _ z=>nomatch z) (fun b o _ hb _ e n=>u.keep b o e n hb (by simp)) (fun b o _ hb _ e n=>u.slot b o e n hb (by simp)) (fun b o _ e n=>u.free b o e n (by simp)) (fun b o _ e=>u.there b o e (by simp)) u.tups u.frzs u.tbls (fun m' hm=>by
  obtain ⟨o',es',ep',ho',r'⟩:=hm
  rw [ho] at ho'; cases ho'
  exact ⟨_,es',ep',hL,r'⟩) hok I.bare
theorem Inv.call {g':Array GenState} {t':Nat} {d':Drawn} {ch:List Addr} (I:Inv X pins σ H s) (u:Un (frs X.stack) ch H H' s.heap h') (hok:HOk X.prog X.w H' h') (hg:AllBare g')
  (hch:∀ b ∈ ch,(b ∈ X.ex\/X.s₀.heap.objs.size<=b)/\b ≠ X.env.locals/\(∀ x c,X.env.cells.lookup x = some c->c ≠ b)/\∀ p ∈ X.pn ++ pins,p.1 ≠ b) :
  Inv X pins σ H' { s with heap:=h',gens:=g',drawn:=d',toks:=t' }:=by
 obtain ⟨m,⟨o,es,ep,ho,r⟩,_⟩:=id I.loc
 obtain ⟨sl,hL⟩:=u.any ho I.free fun z=>(hch _ z).2.1 rfl
 exact I.step (ch:=ch) hch (fun b o hL hb hc e n=>u.keep b o e n (fun z=>(List.mem_cons.mp (I.stkSub b z)).elim hL hb) hc) (fun b o _ _ hc e n=>u.any e n hc) (fun b o hc e n=>u.free b o e n hc) (fun b o hc e=>u.there b o e hc) u.tups u.frzs u.tbls (fun m' hm=>by
  obtain ⟨o',es',ep',ho',r'⟩:=hm
  rw [ho] at ho'; cases ho'
  exact ⟨_,es',ep',hL,r'⟩) hok hg
theorem Inv.turned {t':Nat} {it:Addr} (I:Inv X pins σ H s) (k:∀ b o,b ≠ it->s.heap.get? b = some o->h'.get? b = some o) (hn:H it = none) (hL:it ≠ X.env.locals)
  (h1:it ∈ X.ex\/X.s₀.heap.objs.size<=it) (h2:∀ x c,X.env.cells.lookup x = some c->c ≠ it) (h3:∀ p ∈ X.pn ++ pins,p.1 ≠ it):Inv X pins σ H { s with heap:=h',toks:=t' }:=by
 have nit:∀ b u,H b = some u->b ≠ it:=fun b u e z=>by rw [z,hn] at e; cases e
 refine I.step (g':=s.gens) (d':=s.drawn) (ch:=[it]) (fun b hb=>?_) (fun b o _ _ hc e _=>k b o (fun z=>hc (by simp [z])) e) (fun b o _ _ hc e _=>⟨o.slots,k b o (fun z=>hc (by simp [z])) e⟩) (fun _ _ _ _ n=>n)
  (fun b o hc e=>⟨o,k b o (fun z=>hc (by simp [z])) e⟩) (fun _ _ e=>e) (fun _ _ _ e=>e) (fun b ps e=>⟨#[],by rw [e]; simp⟩) (fun m hm=>?_) (fun b u e=>?_) I.bare
 ·have e:b = it:=by simpa using hb
  subst e
  exact ⟨h1,hL,h2,h3⟩
 ·obtain ⟨o,es,ep,ho,r⟩:=hm
  exact ⟨o,es,ep,k _ o (Ne.symm hL) ho,r⟩
 ·refine (I.hok b u e).stay (fun c v hc q=>k c v ?_ q) (fun _ q=>q) fun _ _ q=>q
  rcases hc with z | z
  ·rw [z]; exact nit b u e
  ·exact nit c _ z
theorem Inv.tok (I:Inv X pins σ H s) (t:Nat):Inv X pins σ H { s with toks:=t }:=I.un (h':=s.heap) (t':=t) Un.refl I.hok
theorem Inv.kept {t':Nat} (I:Inv X pins σ H s) (k:∀ b u,s.heap.get? b = some u->h'.get? b = some u):Inv X pins σ H { s with heap:=h',toks:=t' }:=I.un (Un.kept k) (I.hok.kept k)
theorem Inv.laid {a:Addr} {o:HO} {t':Nat} (I:Inv X pins σ H s) (k:∀ b u,s.heap.get? b = some u->h'.get? b = some u) (hp:s.heap.objs.size<=a) (new:ObjOk X.prog X.w (upd H a o) h' a o) :
  Inv X pins σ (upd H a o) { s with heap:=h',toks:=t' }:=I.un (Un.laid k hp (I.hok.fresh hp)) (I.hok.laid k hp new)
theorem Inv.write {x e:Addr} {o:HO} {t':Nat} (I:Inv X pins σ H s) (mu:Mut (H x)) (he:e = x\/H e = some (.own x)) (k:∀ b u,b ≠ e->s.heap.get? b = some u->h'.get? b = some u) (heo:∃ u,h'.get? e = some u)
  (new:ObjOk X.prog X.w (upd H x o) h' x o):Inv X pins σ (upd H x o) { s with heap:=h',toks:=t' }:=I.un (Un.write mu he k heo) (I.hok.write mu he k heo new)
theorem Inv.pins_of {pins':List (Addr × Obj)} (I:Inv X pins σ H s) (h:∀ p ∈ pins',s.heap.get? p.1 = some p.2/\H p.1 = none/\p.1 ≠ X.env.locals/\p.1 ∉ X.fs/\∀ v,p.2.data ≠ .cell v):Inv X pins' σ H s :=
 ⟨I.ok,I.os,I.bare,I.base,I.loc,I.cell,I.free,I.freeC,fun p hp=>(List.mem_append.mp hp).elim (fun z=>I.pin p (List.mem_append_left _ z)) (h p),I.hok,I.len⟩
theorem Dm {N:List Str} (hN:N.Nodup) {i j:Nat} {x:Str} (a:N[i]? = some x) (b:N[j]? = some x):i = j:=by
 obtain ⟨h1,e1⟩:=List.getElem?_eq_some_iff.mp a
 obtain ⟨h2,e2⟩:=List.getElem?_eq_some_iff.mp b
 exact (List.getElem_inj hN).mp (e1.trans e2.symm)
theorem Gb {M:Model} {A:Around} {E:Value->Shared->Prop} {i:Nat} {x:Str} {v:V} {u:Value} {Q:Unit->Shared->Prop} (I:Inv X pins σ H s) (hN:X.N.Nodup) (hi:X.N[i]? = some x) (hx:Loc X.env.scope x) (r:RelV v u)
  (h:∀ s',Inv X pins (σ.set i (some v)) H s'->(∃ a,Heap.SameBut a s.heap s'.heap/\(a = X.env.locals\/X.env.cells.lookup x = some a))->Q () s') (hf:X.fn x = true\/X.env.scope.names.lookup x = some .local:=by first | exact .inl rfl | exact .inr rfl | assumption):wpAny M A (storeName X.env x u) Q E s:=by
 obtain ⟨m,hn,hl⟩:=id I.loc
 have hcls:(X.env.scope.kind == .class || (X.env.scope.kind == .module && X.env.locals != X.env.globals)) = false:=by rw [I.ok.kind]; rfl
 have hiσ:i < σ.length:=by rw [I.len]; exact (List.getElem?_eq_some_iff.mp hi).1
 have cne:=I.cne
 have tracked:∀ {a:Addr} {h':Heap},(∃ o,s.heap.get? a = some o/\H a = none)->Heap.SameBut a s.heap h'->HOk X.prog X.w H h':=fun {a h'} ha hs b ob e=>by
  obtain ⟨_,_,hfree⟩:=ha
  refine (I.hok b ob e).stay (fun c w' hc q=>(hs.2 c ?_).trans q) (fun _ q=>q) fun _ _ q=>q
  rintro rfl
  rcases hc with rfl | hc
  ·rw [hfree] at e; cases e
  ·rw [hfree] at hc; cases hc
 rcases hx with hk | hk
 ·refine wpAny_storeName_local hk hn (fun h' hn' hs=>?_) hcls
  obtain ⟨oL,_,_,hoL,_⟩:=id hn
  refine h _ ⟨I.ok,I.os,I.bare,⟨fun b o e n hb hx=>?_,fun b o e n hb hx=>?_,I.base.free,fun b o e hx=>?_,I.base.tups,I.base.frzs,I.base.tbls⟩,⟨_,hn',fun j y v' e1 e2 e3=>?_⟩,fun y c e=>?_,I.free,I.freeC,fun p hp=>?_,tracked ⟨oL,hoL,I.free⟩ hs,by simpa using I.len⟩ ⟨_,hs,.inl rfl⟩
  ·exact (hs.2 b (Nat.ne_of_lt (Nat.lt_of_lt_of_le (Heap.lt_size e) I.ok.above))).trans (I.base.keep b o e n hb hx)
  ·obtain ⟨sl,e1⟩:=I.base.slot b o e n hb hx
   exact ⟨sl,(hs.2 b (Nat.ne_of_lt (Nat.lt_of_lt_of_le (Heap.lt_size e) I.ok.above))).trans e1⟩
  ·obtain ⟨o',e1⟩:=I.base.there b o e hx
   exact ⟨o',(hs.2 b (Nat.ne_of_lt (Nat.lt_of_lt_of_le (Heap.lt_size e) I.ok.above))).trans e1⟩
  ·by_cases hj:j = i
   ·subst hj
    rw [hi] at e1; cases e1
    rw [List.getElem?_set_self hiσ] at e2
    cases e2
    exact ⟨u,r,.inl ⟨hk,by simp⟩⟩
   ·rw [List.getElem?_set_ne (Ne.symm hj)] at e2
    obtain ⟨u',r',q⟩:=hl j y v' e1 e2 e3
    refine ⟨u',r',?_⟩
    rcases q with ⟨k,e⟩ | ⟨k,c,e,z⟩
    ·refine .inl ⟨k,?_⟩
     have:y ≠ x:=fun e=>hj (Dm hN e1 (e ▸ hi))
     simp [this,e]
    ·exact .inr ⟨k,c,e,z.sameBut hs (cne y c e)⟩
  ·obtain ⟨w',z⟩:=I.cell y c e
   exact ⟨w',z.sameBut hs (cne y c e)⟩
  ·obtain ⟨e,n,ne,nf,d⟩:=I.pin p hp
   exact ⟨(hs.2 p.1 ne).trans e,n,ne,nf,d⟩
 ·have hfn:X.fn x = true:=by
   rcases hf with z | z
   ·exact z
   ·rw [z] at hk; cases hk
  obtain ⟨c,hc⟩:=I.ok.has x (.inl hk)
  obtain ⟨w',z⟩:=I.cell x c hc
  refine wpAny_storeName_cell I.ok.kind hk hc z (fun h' hc' hs=>?_)
  obtain ⟨oc,hoc,hocd⟩:=id z
  refine h { s with heap:=h' } ⟨I.ok,I.os,I.bare,⟨fun b o e n hb hx=>?_,fun b o e n hb hx=>?_,I.base.free,fun b o e hx=>?_,I.base.tups,I.base.frzs,I.base.tbls⟩,⟨m,hn.sameBut hs (Ne.symm (cne x c hc)),fun j y v' e1 e2 e3=>?_⟩,fun y c' e=>?_,I.free,I.freeC,fun p hp=>?_,tracked ⟨oc,hoc,I.freeC x c hc⟩ hs,by simpa using I.len⟩ ⟨c,hs,.inr hc⟩
  ·exact (hs.2 b (Nat.ne_of_lt (Nat.lt_of_lt_of_le (Heap.lt_size e) (I.ok.cab x c hfn hc)))).trans (I.base.keep b o e n hb hx)
  ·obtain ⟨sl,e1⟩:=I.base.slot b o e n hb hx
   exact ⟨sl,(hs.2 b (Nat.ne_of_lt (Nat.lt_of_lt_of_le (Heap.lt_size e) (I.ok.cab x c hfn hc)))).trans e1⟩
  ·obtain ⟨o',e1⟩:=I.base.there b o e hx
   exact ⟨o',(hs.2 b (Nat.ne_of_lt (Nat.lt_of_lt_of_le (Heap.lt_size e) (I.ok.cab x c hfn hc)))).trans e1⟩
  ·by_cases hj:j = i
   ·subst hj
    rw [hi] at e1; cases e1
    rw [List.getElem?_set_self hiσ] at e2
    cases e2
    exact ⟨u,r,.inr ⟨.inl hk,c,hc,hc'⟩⟩
   ·rw [List.getElem?_set_ne (Ne.symm hj)] at e2
    obtain ⟨u',r',q⟩:=hl j y v' e1 e2 e3
    refine ⟨u',r',?_⟩
    rcases q with q | ⟨k,c',e,z'⟩
    ·exact .inl q
    ·refine .inr ⟨k,c',e,z'.sameBut hs ?_⟩
     rintro rfl
     exact hj (Dm hN e1 (I.ok.inj _ _ _ e hc ▸ hi))
  ·by_cases hcc:c' = c
   ·subst hcc; exact ⟨_,hc'⟩
   ·obtain ⟨w2,z2⟩:=I.cell y c' e
    exact ⟨w2,z2.sameBut hs hcc⟩
  ·obtain ⟨e,n,ne,nf,d⟩:=I.pin p hp
   refine ⟨(hs.2 p.1 ?_).trans e,n,ne,nf,d⟩
   intro q
   rw [q,hoc] at e
   have q':oc = p.2:=Option.some.inj e
   exact d w' (by rw [<-q']; exact hocd)
theorem Dl {M:Model} {A:Around} {E:Value->Shared->Prop} {i:Nat} {x:Str} {v:V} {u:Value} {Q:Unit->Shared->Prop} (I:Inv X pins σ H s) (hN:X.N.Nodup) (hi:X.N[i]? = some x) (hx:Loc X.env.scope x) (r:RelV v u)
  (h:∀ s',Inv X pins (σ.set i (some v)) H s'->Q () s') (hf:X.fn x = true\/X.env.scope.names.lookup x = some .local:=by first | exact .inl rfl | exact .inr rfl | assumption):wpAny M A (storeName X.env x u) Q E s :=
 Gb I hN hi hx r (fun s' I' _=>h s' I') hf
theorem Inv.call' {s':Shared} {ch:List Addr} (I:Inv X pins σ H s) (ho:s'.os = s.os) (u:Un (frs X.stack) ch H H' s.heap s'.heap) (hok:HOk X.prog X.w H' s'.heap) (hg:AllBare s'.gens)
  (hch:∀ b ∈ ch,(b ∈ X.ex\/X.s₀.heap.objs.size<=b)/\b ≠ X.env.locals/\(∀ x c,X.env.cells.lookup x = some c->c ≠ b)/\∀ p ∈ X.pn ++ pins,p.1 ≠ b):Inv X pins σ H' s':=by
 obtain ⟨h',g',d',t',o'⟩:=s'
 have e:o' = s.os:=ho
 subst e
 exact I.call (g':=g') (t':=t') (d':=d') u hok hg hch
end
noncomputable abbrev XK:=Value->Option Addr->Hp->Prop
noncomputable abbrev St:=List (Option V)
noncomputable abbrev VK:=V->Hp->Prop
noncomputable abbrev TE:=St->Hp->VK->Prop
noncomputable abbrev TT:=St->Hp->(Bool->Hp->Prop)->Prop
noncomputable abbrev TA:=St->Hp->(List V->Hp->Prop)->Prop
structure Ends where
 nx:St->Hp->Prop
 rt:VK
 bk:St->Hp->Prop:=fun _ _=>False
 ct:St->Hp->Prop:=fun _ _=>False
noncomputable abbrev TS:=Ends->St->Hp->Prop
noncomputable def EP (X:Cx) (pins:List (Addr × Obj)) (σ:St) (Q:VK) (u:Value) (s':Shared):Prop:=∃ v H',Inv X pins σ H' s'/\RelV v u/\Q v H'
noncomputable def TP (X:Cx) (pins:List (Addr × Obj)) (σ:St) (Q:Bool->Hp->Prop) (b:Bool) (s':Shared):Prop:=∃ H',Inv X pins σ H' s'/\Q b H'
noncomputable def AP (X:Cx) (pins:List (Addr × Obj)) (σ:St) (Q:List V->Hp->Prop) (us:List Value) (s':Shared):Prop:=∃ vs H',Inv X pins σ H' s'/\Vals vs us/\Q vs H'
noncomputable def SP (X:Cx) (pins:List (Addr × Obj)) (D:Ends) (f:Flow) (s':Shared):Prop :=
 match f with
 | .next=>∃ σ' H',Inv X pins σ' H' s'/\D.nx σ' H'
 | .brk=>∃ σ' H',Inv X pins σ' H' s'/\D.bk σ' H'
 | .cont=>∃ σ' H',Inv X pins σ' H' s'/\D.ct σ' H'
 | .ret u=>∃ v σ' H',Inv X pins σ' H' s'/\RelV v u/\D.rt v H'
noncomputable def PE (X:Cx) (e:Expr) (t:TE):Prop :=
 ∀ (pins:List (Addr × Obj)) (s:Shared) (σ:St) (H:Hp) (Q:VK),Inv X pins σ H s->t σ H Q->wpAny (model X.prog X.w) X.A (eval e X.env) (EP X pins σ Q) X.xe s
noncomputable def PT (X:Cx) (e:Expr) (t:TT):Prop :=
 ∀ (pins:List (Addr × Obj)) (s:Shared) (σ:St) (H:Hp) (Q:Bool->Hp->Prop),Inv X pins σ H s->t σ H Q->wpAny (model X.prog X.w) X.A (isTrue e X.env (eval e X.env)) (TP X pins σ Q) X.xe s
noncomputable def PW (X:Cx) (e:Expr) (t:TT):Prop :=
 ∀ (whole:Sem Value) (pins:List (Addr × Obj)) (s:Shared) (σ:St) (H:Hp) (Q:Bool->Hp->Prop),Inv X pins σ H s->t σ H Q->wpAny (model X.prog X.w) X.A (isTrue e X.env whole) (TP X pins σ Q) X.xe s
theorem PW.pt {X:Cx} {e:Expr} {t:TT} (h:PW X e t):PT X e t:=h _
noncomputable def PA (X:Cx) (es:List Expr) (t:TA):Prop :=
 ∀ (pos:Pos) (pins:List (Addr × Obj)) (s:Shared) (σ:St) (H:Hp) (Q:List V->Hp->Prop),Inv X pins σ H s->t σ H Q->wpAny (model X.prog X.w) X.A (spliced (backTo pos (starEach es X.env))) (AP X pins σ Q) X.xe s
noncomputable def PS (X:Cx) (st:Stmt) (t:TS):Prop :=
 ∀ (pins:List (Addr × Obj)) (s:Shared) (σ:St) (H:Hp) (D:Ends),Inv X pins σ H s->t D σ H->wpAny (model X.prog X.w) X.A (exec st X.env) (SP X pins D) X.xe s
noncomputable def PSs (X:Cx) (st:List Stmt) (t:TS):Prop :=
 ∀ (pins:List (Addr × Obj)) (s:Shared) (σ:St) (H:Hp) (D:Ends),Inv X pins σ H s->t D σ H->wpAny (model X.prog X.w) X.A (execs st X.env) (SP X pins D) X.xe s
theorem thn {α:Type} {t:Sem α} {Q Q':α->Shared->Prop} {M:Model} {A:Around} {E:Value->Shared->Prop} {s:Shared} (h:wpAny M A t Q E s) (hQ:∀ a s,Q a s->Q' a s):wpAny M A t Q' E s:=wpAny_mono h hQ fun _ _ x=>x
end L2
namespace L2
open PySem PySem.Spec PyProof.Rows
section
variable {X:Cx}
noncomputable def Mj (i:Nat):TE:=fun σ H Q=>∃ v,σ[i]? = some (some v)/\Q v H
noncomputable def tC (v:V):TE:=fun _ H Q=>Q v H
theorem Yf {i:Nat} {x:Str} {pos:Pos} (hN:X.N[i]? = some x) (hv:Vis X.env.scope x) (hd:(x == ("__debug__":Str)) = false:=by decide) (hcd:(x == ("__classdict__":Str)) = false:=by decide):PE X (.Name x pos) (Mj i):=by
 intro pins s σ H Q I h
 obtain ⟨v,e,h⟩:=h
 obtain ⟨m,hn,hl⟩:=I.loc
 obtain ⟨u,r,l⟩:=hl i x v hN e hv
 have fin:EP X pins σ Q u s:=⟨v,H,I,r,h⟩
 rcases l with ⟨hk,hm⟩ | ⟨hk,c,hc,hcell⟩
 ·exact wpAny_Name (wpAny_loadName_local I.ok.kind hk hn hm fin) hd
 ·rcases hk with hk | hk
  ·exact wpAny_Name (wpAny_loadName_cell I.ok.kind hk hc hcell fin) hd
  ·exact wpAny_Name (wpAny_loadName_free I.ok.kind hk hc hcell fin hcd) hd
theorem B4 {i j pos}:PE X (.Constant (.int i) j pos) (tC (.int i)):=fun _ _ _ H _ I h=>wpAny_Constant_int ⟨.int i,H,I.tok _,⟨_,rfl⟩,h⟩
theorem Gr {b j pos}:PE X (.Constant (.bool b) j pos) (tC (.bl b)):=fun _ _ _ H _ I h=>Constant_bool ⟨.bl b,H,I,rfl,h⟩
theorem Qb {j pos}:PE X (.Constant .none j pos) (tC .non):=fun _ _ _ H _ I h=>Constant_none ⟨.non,H,I,rfl,h⟩
theorem D9 {x j pos}:PE X (.Constant (.str x) j pos) (tC (.str x)):=fun _ _ _ H _ I h=>Calls.Constant_str ⟨.str x,H,I.tok _,⟨_,rfl⟩,h⟩
noncomputable def Gl (X:Cx) (x:Str):Prop:=X.env.kindOf x = some .globalImplicit
theorem a7 {E:Value->Shared->Prop} {pins:List (Addr × Obj)} {s:Shared} {σ:St} {H:Hp} {x:Str} {u:Value} {pos:Pos} {Q:Value->Shared->Prop} (I:Inv X pins σ H s) (hg:Gl X x) (hm:X.mg x = some u) (h:Q u s)
  (hd:(x == ("__debug__":Str)) = false:=by decide):wpAny (model X.prog X.w) X.A (eval (.Name x pos) X.env) Q E s :=
 Calls.Name_function_global I.ok.kind hg (Calls.loadGlobal_global (by rw [I.ok.glob]; exact I.mod.glob.keeps I.bk) hm h) hd
theorem t9 {E:Value->Shared->Prop} {pins:List (Addr × Obj)} {s:Shared} {σ:St} {H:Hp} {x:Str} {u:Value} {pos:Pos} {Q:Value->Shared->Prop} (I:Inv X pins σ H s) (hg:Gl X x) (hm:X.mg x = none) (hv:bootBuiltins x = some u) (h:Q u s)
  (hn:x ≠ "__name__":=by decide) (hd:(x == ("__debug__":Str)) = false:=by decide):wpAny (model X.prog X.w) X.A (eval (.Name x pos) X.env) Q E s:=by
 obtain ⟨mb,h1,h2⟩:=I.mod.blt
 exact Calls.Name_function_global I.ok.kind hg (Calls.loadGlobal_builtin (by rw [I.ok.glob]; exact I.mod.glob.keeps I.bk) hm (by rw [I.ok.blt]; exact h1.keeps I.bk) ((h2 x hn).trans hv) h) hd
theorem Ip {x:Str} {v:V} {u:Value} {pos:Pos} (hg:Gl X x) (hm:X.mg x = some u) (r:RelV v u) (hd:(x == ("__debug__":Str)) = false:=by decide):PE X (.Name x pos) (tC v) :=
 fun _ _ _ H _ I h=>a7 I hg hm ⟨v,H,I,r,h⟩ hd
theorem Vv {x:Str} {v:V} {u:Value} {pos:Pos} (hg:Gl X x) (hm:X.mg x = none) (hv:bootBuiltins x = some u) (r:RelV v u) (hn:x ≠ "__name__":=by decide) (hd:(x == ("__debug__":Str)) = false:=by decide):PE X (.Name x pos) (tC v) :=
 fun _ _ _ H _ I h=>t9 I hg hm hv ⟨v,H,I,r,h⟩ hn hd
variable {a b:Expr} {ta tb:TE} {pos:Pos}
noncomputable def tB (t:TE):TT:=fun σ H Q=>t σ H fun x H1=>∃ c,x = .bl c/\Q c H1
theorem M0 {e:Expr} {t:TE} (h:PE X e t) (he:∀ whole,isTrue e X.env whole = (do let v <-whole; standAt e.pos; holding [v] (truthy v)):=by intro _; rfl):PT X e (tB t):=by
 intro pins s σ H Q I hw
 refine isTrue_plain (thn (h pins s σ H _ I hw) fun v s1 ⟨x,H1,I1,r1,q1⟩=>?_) (he _)
 obtain ⟨d,rfl,q⟩:=q1
 cases r1
 exact wpAny_truthy_bool ⟨H1,I1,q⟩
variable {tA tB':TT} {rest:List Expr}
noncomputable def zDd (t u:TT):TT:=fun σ H Q=>t σ H fun c H1=>if c = true then u σ H1 Q else Q false H1
noncomputable def tOr (t u:TT):TT:=fun σ H Q=>t σ H fun c H1=>if c = true then Q true H1 else u σ H1 Q
noncomputable def zCx (t:TT):TT:=fun σ H Q=>t σ H fun c H1=>Q (!c) H1
theorem V3 (ha:PT X a tA):PW X (.BoolOp .And [a] pos) tA:=by
 intro wh pins s σ H Q I h
 refine isTrue_and (thn (ha pins s σ H Q I h) fun c s1 e=>?_)
 cases c with
 | true=>exact isTrue_and_nil e
 | false=>exact e
theorem W7 (ha:PT X a tA):PW X (.BoolOp .Or [a] pos) tA:=by
 intro wh pins s σ H Q I h
 refine isTrue_or (thn (ha pins s σ H Q I h) fun c s1 e=>?_)
 cases c with
 | false=>exact isTrue_or_nil e
 | true=>exact e
theorem X0 (ha:PT X a tA) (hb:PW X (.BoolOp .And (b :: rest) pos) tB'):PW X (.BoolOp .And (a :: b :: rest) pos) (zDd tA tB'):=by
 intro wh pins s σ H Q I h
 refine isTrue_and (thn (ha pins s σ H _ I h) fun c s1 ⟨H1,I1,q1⟩=>?_)
 cases c with
 | true=>exact hb wh pins s1 σ H1 Q I1 q1
 | false=>exact ⟨H1,I1,q1⟩
theorem Dx (ha:PT X a tA) (hb:PW X (.BoolOp .Or (b :: rest) pos) tB'):PW X (.BoolOp .Or (a :: b :: rest) pos) (tOr tA tB'):=by
 intro wh pins s σ H Q I h
 refine isTrue_or (thn (ha pins s σ H _ I h) fun c s1 ⟨H1,I1,q1⟩=>?_)
 cases c with
 | true=>exact ⟨H1,I1,q1⟩
 | false=>exact hb wh pins s1 σ H1 Q I1 q1
theorem U5 (ha:PT X a tA):PT X (.UnaryOp .Not a pos) (zCx tA):=by
 intro pins s σ H Q I h
 exact isTrue_not (ha pins s σ H (fun c H1=>Q (!c) H1) I h)
noncomputable def zBe (ta tb:TE):TE:=fun σ H Q=>ta σ H fun x H1=>∃ c,x = .bl c/\if c = true then tb σ H1 Q else Q (.bl false) H1
noncomputable def zBj (ta:TE):TE:=fun σ H Q=>ta σ H fun x H1=>∃ c,x = .bl c/\Q (.bl (!c)) H1
theorem u9 {op} {t:TE} (h:PE X a t):PE X (.BoolOp op [a] pos) t:=fun pins s σ H Q I hw=>BoolOp_one (h pins s σ H Q I hw)
theorem g9 (ha:PE X a ta) (hb:PE X (.BoolOp .And (b :: rest) pos) tb):PE X (.BoolOp .And (a :: b :: rest) pos) (zBe ta tb):=by
 intro pins s σ H Q I h
 refine BoolOp_and (thn (ha pins s σ H _ I h) fun v s1 ⟨x,H1,I1,r1,q1⟩=>?_)
 obtain ⟨c,rfl,q1⟩:=q1
 cases r1
 refine wpAny_truthy_bool ?_
 cases c with
 | true=>exact hb pins s1 σ H1 Q I1 q1
 | false=>exact ⟨.bl false,H1,I1,rfl,q1⟩
theorem Tw (ha:PE X a ta):PE X (.UnaryOp .Not a pos) (zBj ta):=by
 intro pins s σ H Q I h
 refine UnaryOp_ (thn (ha pins s σ H _ I h) fun v s1 ⟨x,H1,I1,r1,q1⟩=>?_)
 obtain ⟨c,rfl,q1⟩:=q1
 cases r1
 exact not_of (wpAny_truthy_bool ⟨.bl (!c),H1,I1,rfl,q1⟩)
noncomputable def tIf (t:TT) (ta tb:TE):TE:=fun σ H Q=>t σ H fun c H1=>if c = true then ta σ H1 Q else tb σ H1 Q
theorem Ry {c:Expr} (hc:PT X c tA) (ha:PE X a ta) (hb:PE X b tb):PE X (.IfExp c a b pos) (tIf tA ta tb):=by
 intro pins s σ H Q I h
 refine wpAny_IfExp (thn (hc pins s σ H _ I h) fun d s1 ⟨H1,I1,q1⟩=>?_)
 cases d with
 | true=>exact ha pins s1 σ H1 Q I1 q1
 | false=>exact hb pins s1 σ H1 Q I1 q1
end
end L2
namespace L2
open PySem PySem.Spec PyProof.Rows
noncomputable def SqL (K:PySem.W.Frag) (H:Hp) (a:Addr) (xs:List V):Prop :=
 Rd H a (.lst xs) \/
  ∃ (o:Obj) (its:Array Value) (n:Nat),K.lookup a = some o/\o.cls = .type "list"/\o.dict = none/\o.data = .seq its n/\its.size<=sizeLine/\Vals xs its.toList
noncomputable def SqT (K:PySem.W.Frag) (H:Hp) (a:Addr) (xs:List V):Prop :=
 Rd H a (.tup xs) \/
  ∃ (o:Obj) (its:Array Value) (n:Nat),K.lookup a = some o/\o.cls = .type "tuple"/\o.data = .seq its n/\its.size<=sizeLine/\Vals xs its.toList
noncomputable def zCo:Value->Option V
 | .none=>some .non
 | .bool b=>some (.bl b)
 | .int i _=>some (.int i)
 | .str x _=>some (.str x)
 | .bytes b _=>some (.byt b)
 | .float b _=>some (.flt b)
 | .ref a=>some (.ref a)
 | .type n=>some (.ty n)
 | _=>none
theorem RelV.abs {x:V} {u:Value} (r:RelV x u):zCo u = some x:=by
 cases x with
 | non=>cases r; rfl
 | bl _=>cases r; rfl
 | int _=>obtain ⟨t,rfl⟩:=r; rfl
 | str _=>obtain ⟨t,rfl⟩:=r; rfl
 | byt _=>obtain ⟨t,rfl⟩:=r; rfl
 | flt _=>obtain ⟨t,rfl⟩:=r; rfl
 | ref _=>cases r; rfl
 | ty _=>cases r; rfl
theorem RelV.inj {x y:V} {u:Value} (r:RelV x u) (q:RelV y u):x = y:=Option.some.inj (r.abs.symm.trans q.abs)
theorem Vals.inj:∀ {xs ys:List V} {us:List Value},Vals xs us->Vals ys us->xs = ys
 | _,_,_,.nil,.nil=>rfl
 | _,_,_,.cons r t,.cons r' t'=>by rw [r.inj r',Vals.inj t t']
section
variable {X:Cx} {pins:List (Addr × Obj)} {σ:St} {H:Hp} {s:Shared} {a:Addr} {xs ys:List V}
theorem SqL.of {K:PySem.W.Frag} (h:H a = some (.lst xs)):SqL K H a xs:=.inl (.inl h)
theorem SqT.of {K:PySem.W.Frag} (h:H a = some (.tup xs)):SqT K H a xs:=.inl (.inl h)
theorem Inv.list (I:Inv X pins σ H s) (h:SqL X.K H a xs):∃ its:List Value,Vals xs its/\PlainL s.heap a its.toArray/\xs.length<=sizeLine:=by
 rcases h with h | ⟨o,its,n,hk,hc,hd,hs,hz,r⟩
 ·obtain ⟨z,its,n,r,e⟩:=h.ok I.hok
  exact ⟨its,r,⟨_,n,e,rfl,rfl,rfl⟩,z⟩
 ·refine ⟨its.toList,r,⟨o,n,I.kIn a o hk,hc,hd,by simpa using hs⟩,?_⟩
  have e:=r.length
  simp only [Array.length_toList] at e
  omega
theorem Inv.tuple (I:Inv X pins σ H s) (h:SqT X.K H a xs):∃ its:List Value,Vals xs its/\IsTup s.heap a its.toArray/\xs.length<=sizeLine:=by
 rcases h with h | ⟨o,its,n,hk,hc,hs,hz,r⟩
 ·obtain ⟨z,its,r,p⟩:=h.ok I.hok
  exact ⟨its,r,p,z⟩
 ·refine ⟨its.toList,r,⟨o,I.kIn a o hk,hc,n,by simpa using hs⟩,?_⟩
  have e:=r.length
  simp only [Array.length_toList] at e
  omega
theorem Inv.list_inj (I:Inv X pins σ H s) (h:SqL X.K H a xs) (h':SqL X.K H a ys):xs = ys:=by
 obtain ⟨its,r,⟨o,n,e,_,_,d⟩,_⟩:=I.list h
 obtain ⟨its',r',⟨o',n',e',_,_,d'⟩,_⟩:=I.list h'
 rw [e] at e'; cases e'
 rw [d] at d'
 injection d' with d1 _
 have:its = its':=by simpa using congrArg Array.toList d1
 subst this
 exact r.inj r'
theorem Inv.tuple_inj (I:Inv X pins σ H s) (h:SqT X.K H a xs) (h':SqT X.K H a ys):xs = ys:=by
 obtain ⟨its,r,⟨o,e,_,n,d⟩,_⟩:=I.tuple h
 obtain ⟨its',r',⟨o',e',_,n',d'⟩,_⟩:=I.tuple h'
 rw [e] at e'; cases e'
 rw [d] at d'
 injection d' with d1 _
 have:its = its':=by simpa using congrArg Array.toList d1
 subst this
 exact r.inj r'
end
noncomputable abbrev Cx.wish (X:Cx) (E:Value->Shared->Prop):Cx:={ X with xe:=E }
noncomputable abbrev Cx.nox (X:Cx):Cx:=X.wish fun _ _=>False
theorem Cx.Ok.wish {X:Cx} (ok:X.Ok) (E:Value->Shared->Prop):(X.wish E).Ok :=
 ⟨ok.mod,ok.kind,ok.glob,ok.blt,ok.above,ok.inj,ok.has,ok.cab,ok.hd,ok.frames,ok.stk,ok.exf,ok.bs,ok.bsz,ok.noex,ok.exfs,ok.funs,ok.frf⟩
theorem Cx.Ok.unwish {X:Cx} {E:Value->Shared->Prop} (ok:(X.wish E).Ok):X.Ok :=
 ⟨ok.mod,ok.kind,ok.glob,ok.blt,ok.above,ok.inj,ok.has,ok.cab,ok.hd,ok.frames,ok.stk,ok.exf,ok.bs,ok.bsz,ok.noex,ok.exfs,ok.funs,ok.frf⟩
section
variable {X:Cx} {pins:List (Addr × Obj)} {σ:St} {H:Hp} {s:Shared} {E:Value->Shared->Prop}
theorem Inv.wish (I:Inv X pins σ H s) (E:Value->Shared->Prop):Inv (X.wish E) pins σ H s:=⟨I.ok.wish E,I.os,I.bare,I.base,I.loc,I.cell,I.free,I.freeC,I.pin,I.hok,I.len⟩
theorem Inv.unwish (I:Inv (X.wish E) pins σ H s):Inv X pins σ H s:=⟨I.ok.unwish,I.os,I.bare,I.base,I.loc,I.cell,I.free,I.freeC,I.pin,I.hok,I.len⟩
theorem SP.unwish {D:Ends} {f:Flow} {s':Shared} (h:SP (X.wish E) pins D f s'):SP X pins D f s':=by
 cases f with
 | next=>obtain ⟨σ',H',I,q⟩:=h; exact ⟨σ',H',I.unwish,q⟩
 | brk=>obtain ⟨σ',H',I,q⟩:=h; exact ⟨σ',H',I.unwish,q⟩
 | cont=>obtain ⟨σ',H',I,q⟩:=h; exact ⟨σ',H',I.unwish,q⟩
 | ret u=>obtain ⟨v,σ',H',I,r,q⟩:=h; exact ⟨v,σ',H',I.unwish,r,q⟩
theorem PSs.nox {st:List Stmt} {t:TS} (h:PSs X.nox st t):PSs X st t:=fun pins s σ H D I hw =>
 wpAny_mono (h pins s σ H D (I.wish _) hw) (fun _ _ q=>q.unwish) fun _ _ z=>False.elim z
end
section
variable {X:Cx} {st:Stmt} {rest:List Stmt} {t u:TS} {e:Expr} {te:TE} {pos:Pos}
noncomputable def zBa:TS:=fun D σ H=>D.nx σ H
noncomputable def Uu (t u:TS):TS:=fun D σ H=>t { D with nx:=u D } σ H
theorem C1:PSs X [] zBa:=fun _ _ σ H _ I h=>wpAny_execs_nil ⟨σ,H,I,h⟩
theorem B0 (h1:PS X st t) (h2:PSs X rest u):PSs X (st :: rest) (Uu t u):=by
 intro pins s σ H D I h
 refine wpAny_execs_cons (thn (h1 pins s σ H { D with nx:=u D } I h) fun f s1 q=>?_)
 cases f with
 | next =>
  obtain ⟨σ',H',I',q⟩:=q
  exact h2 pins s1 σ' H' D I' q
 | ret v=>exact q
 | brk=>exact q
 | cont=>exact q
theorem B1 (h1:PS X st t):PSs X [st] t:=by
 intro pins s σ H D I h
 refine wpAny_execs_cons (thn (h1 pins s σ H D I h) fun f s1 q=>?_)
 cases f with
 | next=>exact wpAny_execs_nil q
 | ret v=>exact q
 | brk=>exact q
 | cont=>exact q
theorem Inv.quiet {pins:List (Addr × Obj)} {σ:St} {H:Hp} {s:Shared} (I:Inv X pins σ H s):interactive X.env = false:=by simp [interactive,I.ok.kind]
noncomputable def zAf (te:TE):TS:=fun D σ H=>te σ H fun _ H1=>D.nx σ H1
theorem C7 (he:PE X e te) (hs:swapsWith e none pos.line X.env = pure false:=by rfl):PS X (.Expr e pos) (zAf te):=by
 intro pins s σ H D I h
 exact wpAny_Expr_any (thn (he pins s σ H _ I h) fun v s1 ⟨x,H1,I1,r1,q1⟩=>⟨σ,H1,I1,q1⟩) I.quiet hs
noncomputable def zAb (te:TE):TS:=fun D σ H=>te σ H D.rt
theorem C0 (he:PE X e te):PS X (.Return (some e) pos) (zAb te):=by
 intro pins s σ H D I h
 exact wpAny_Return_some (thn (he pins s σ H _ I h) fun v s1 ⟨x,H1,I1,r1,q1⟩=>⟨x,σ,H1,I1,r1,q1⟩)
noncomputable def zDc (c:TT) (t u:TS):TS:=fun D σ H=>c σ H fun b H1=>if b = true then t D σ H1 else u D σ H1
theorem I0 {c:Expr} {a b:List Stmt} {tc:TT} (hc:PT X c tc) (ha:PSs X a t) (hb:PSs X b u):PS X (.If c a b pos) (zDc tc t u):=by
 intro pins s σ H D I h
 refine wpAny_If (thn (hc pins s σ H _ I h) fun d s1 ⟨H1,I1,q1⟩=>?_)
 cases d with
 | true=>exact ha pins s1 σ H1 D I1 q1
 | false=>exact hb pins s1 σ H1 D I1 q1
noncomputable def Xq:TS:=fun _ _ _=>False
theorem X3:PS X st Xq:=fun _ _ _ _ _ _ h=>h.elim
end
noncomputable abbrev TG:=V->St->Hp->(St->Hp->Prop)->Prop
noncomputable abbrev TGs:=List V->St->Hp->(St->Hp->Prop)->Prop
noncomputable def PG (X:Cx) (target:Expr) (t:TG):Prop :=
 ∀ (pins:List (Addr × Obj)) (s:Shared) (σ:St) (H:Hp) (v:V) (u:Value) (Q:St->Hp->Prop),Inv X pins σ H s->RelV v u->t v σ H Q ->
  wpAny (model X.prog X.w) X.A (assign target X.env u) (fun _ s'=>∃ σ' H',Inv X pins σ' H' s'/\Q σ' H') X.xe s
noncomputable def PGs (X:Cx) (ts:List Expr) (t:TGs):Prop :=
 ∀ (pins:List (Addr × Obj)) (s:Shared) (σ:St) (H:Hp) (vs:List V) (us:List Value) (Q:St->Hp->Prop),Inv X pins σ H s->Vals vs us->t vs σ H Q ->
  wpAny (model X.prog X.w) X.A (assignInOrder ((assignEach ts X.env).map (·.2)) us) (fun _ s'=>∃ σ' H',Inv X pins σ' H' s'/\Q σ' H') X.xe s
noncomputable abbrev TSet:=V->V->V->Hp->(Hp->Prop)->Prop
noncomputable def zBr (X:Cx) (t:TSet):Prop :=
 ∀ (pins:List (Addr × Obj)) (s:Shared) (σ:St) (H:Hp) (o i v:V) (ov iv u:Value) (Q:Hp->Prop),Inv X pins σ H s->RelV o ov->RelV i iv->RelV v u->t o i v H Q ->
  wpAny (model X.prog X.w) X.A (setItem ov iv u) (fun _ s'=>∃ H',Inv X pins σ H' s'/\Q H') X.xe s
section
variable {X:Cx} {pos:Pos}
noncomputable def T9 (i:Nat):TG:=fun v σ H Q=>Q (σ.set i (some v)) H
theorem G9 {i:Nat} {x:Str} (hN:X.N.Nodup) (hi:X.N[i]? = some x) (hx:Loc X.env.scope x) (hf:X.fn x = true\/X.env.scope.names.lookup x = some .local:=by first | exact .inl rfl | exact .inr rfl | assumption):PG X (.Name x pos) (T9 i):=by
 intro pins s σ H v u Q I r h
 exact wpAny_assign_Name (Dl I hN hi hx r (fun s' I'=>⟨_,H,I',h⟩) hf)
noncomputable def zAs:TGs:=fun vs σ H Q=>vs = []/\Q σ H
noncomputable def Og (t:TG) (u:TGs):TGs:=fun vs σ H Q=>∃ v r,vs = v :: r/\t v σ H fun σ' H'=>u r σ' H' Q
theorem T2:PGs X [] zAs:=by
 intro pins s σ H vs us Q I r h
 obtain ⟨e,h⟩:=h
 subst e
 cases r
 exact assignInOrder_nil ⟨σ,H,I,h⟩
theorem E5 {e:Expr} {es:List Expr} {t:TG} {u:TGs} (h1:PG X e t) (h2:PGs X es u)
  (hs:(assignEach (e :: es) X.env).map (·.2) = assign e X.env :: (assignEach es X.env).map (·.2):=by rfl):PGs X (e :: es) (Og t u):=by
 intro pins s σ H vs us Q I r h
 obtain ⟨v,vr,e1,h⟩:=h
 subst e1
 cases r with
 | cons r rr =>
  rw [hs]
  refine assignInOrder_cons (thn (h1 pins s σ H _ _ _ I r h) fun _ s1 ⟨σ1,H1,I1,q1⟩=>?_)
  exact h2 pins s1 σ1 H1 _ _ Q I1 rr q1
noncomputable def zAe (K:PySem.W.Frag) (n:Nat) (t:TGs):TG:=fun v σ H Q=>∃ a xs,v = .ref a/\SqT K H a xs/\xs.length = n/\t xs σ H Q
theorem Xu {es:List Expr} {k:Nat} {t:TGs} {n:Nat} (hc:X.calm = true) (h:PGs X es t)
  (hn:(assignEach es X.env).length = n:=by rfl) (hst:(assignEach es X.env).findIdx? (·.1) = none:=by rfl):PG X (.Tuple es k pos) (zAe X.K n t):=by
 intro pins s σ H v u Q I r hw
 obtain ⟨a,xs,e1,hq,hl,hw⟩:=hw
 subst e1
 cases r
 obtain ⟨its,rv,ht,hz⟩:=I.tuple hq
 refine assign_Tuple_tuple (I.ok.hd hc) ht (by simp [hn,<-hl,rv.length]) hst fun h' hx=>?_
 have I1:Inv X pins σ H { s with heap:=h' }:=I.kept (t':=s.toks) fun b o e=>hx b o (Nat.ne_of_lt (Heap.lt_size e)) e
 exact h pins _ σ H xs _ Q I1 (by simpa using rv) hw
noncomputable def zCv (to ti:TE) (t:TSet):TG:=fun v σ H Q=>to σ H fun o H1=>ti σ H1 fun i H2=>t o i v H2 fun H3=>Q σ H3
theorem Tz {o i:Expr} {to ti:TE} {t:TSet} (ho:PE X o to) (hi:PE X i ti) (hs:zBr X t)
  (ha:∀ v,assign (.Subscript o i pos) X.env v = (do
   let ov <-holding [v] (eval o X.env)
   let iv <-holding [v,ov] (eval i X.env)
   standAt pos
   holding [v,ov,iv] (setItem ov iv v)
   release [v,ov,iv] []):=by intro _; rfl):PG X (.Subscript o i pos) (zCv to ti t):=by
 intro pins s σ H v u Q I r h
 rw [ha]
 refine wpAny_bind (wpAny_holding (thn (ho pins s σ H _ I h) fun ov s1 ⟨x,H1,I1,r1,q1⟩=>?_))
 refine wpAny_bind (wpAny_holding (thn (hi pins s1 σ H1 _ I1 q1) fun iv s2 ⟨y,H2,I2,r2,q2⟩=>?_))
 refine wpAny_bind (wpAny_standAt (wpAny_bind (wpAny_holding (thn (hs pins s2 σ H2 x y v ov iv u _ I2 r1 r2 r q2) fun _ s3 ⟨H3,I3,q3⟩=>?_))))
 exact wpAny_release ⟨σ,H3,I3,q3⟩
noncomputable def Wp (te:TE) (g:TG):TS:=fun D σ H=>te σ H fun x H1=>g x σ H1 D.nx
theorem Nk {tg e:Expr} {te:TE} {g:TG} (he:PE X e te) (hg:PG X tg g) (hs:swapsWithSole [tg] e pos.line X.env = pure false:=by rfl) (hw:swappedStores [tg] e X.env = pure none:=by rfl)
  (h1:(assignEach [tg] X.env).map (·.2) = [assign tg X.env]:=by rfl):PS X (.Assign [tg] e pos) (Wp te g):=by
 intro pins s σ H D I h
 refine wpAny_Assign_stores (thn (he pins s σ H _ I h) fun v s1 ⟨x,H1,I1,r1,q1⟩=>?_) hs hw
 rw [h1]
 exact thn (hg pins s1 σ H1 x v _ I1 r1 q1) fun _ s2 q=>q
theorem C5 {i:Nat} {x:Str} {e:Expr} {te:TE} {pos':Pos} (hN:X.N.Nodup) (hi:X.N[i]? = some x) (hx:Loc X.env.scope x) (he:PE X e te) (hs:swapsWith e (some (.Name x pos')) pos.line X.env = pure false:=by rfl) (hf:X.fn x = true\/X.env.scope.names.lookup x = some .local:=by first | exact .inl rfl | exact .inr rfl | assumption) :
  PS X (.Assign [.Name x pos'] e pos) (Wp te (T9 i)):=by
 intro pins s σ H D I h
 refine wpAny_Assign_Name (thn (he pins s σ H _ I h) fun v s1 ⟨y,H1,I1,r1,q1⟩=>?_) hs
 exact Dl I1 hN hi hx r1 (fun s2 I2=>⟨_,H1,I2,q1⟩) hf
end
structure It where
 go:Nat->Hp->Prop
 yld:Nat->Hp->V->Hp->Prop
 stop:Nat->Hp->Prop
noncomputable def Bh (X:Cx) (pins:List (Addr × Obj)) (H:Hp) (b:Addr):Prop :=
 H b = none/\b ≠ X.env.locals/\b ∉ X.fs/\(b ∈ X.ex\/X.s₀.heap.objs.size<=b)/\(∀ x c,X.env.cells.lookup x = some c->c ≠ b)/\∀ p ∈ X.pn ++ pins,p.1 ≠ b
theorem Inv.fpOk {X:Cx} {pins:List (Addr × Obj)} {σ:St} {H H':Hp} {s:Shared} {b:Addr} (I:Inv X pins σ H s) (hb:s.heap.objs.size<=b) (hn:H' b = none):Bh X pins H' b:=by
 refine ⟨hn,Nat.ne_of_gt (Nat.lt_of_lt_of_le I.lt hb),I.nofs hb,.inr (Nat.le_trans I.sz hb),fun x c e z=>?_,fun p hp z=>?_⟩
 ·obtain ⟨v,q⟩:=I.cell x c e
  exact absurd (Nat.lt_of_lt_of_le q.lt (by rw [z]; exact hb)) (Nat.lt_irrefl _)
 ·exact absurd (Nat.lt_of_lt_of_le (Heap.lt_size (I.pin p hp).1) (by rw [z]; exact hb)) (Nat.lt_irrefl _)
structure Turn (P:Program) (w:World) (K:PySem.W.Frag) (tg:Expr) (J:It) (fp:List Addr) (it:Addr) (tn:Nat->Heap->Prop):Prop where
 mem:it ∈ fp
 obj:∀ i h,tn i h->∀ b ∈ fp,∃ o,h.get? b = some o/\∀ v,o.data ≠ .cell v
 keep:∀ i h h',tn i h->(∀ b ∈ fp,∀ o,h.get? b = some o->h'.get? b = some o)->tn i h'
 item:∀ (X:Cx),X.prog = P->X.w = w->X.K = K->X.calm = true->∀ (i:Nat) (pins:List (Addr × Obj)) (s:Shared) (σ:St) (H:Hp) (E:Value->Shared->Prop),Inv X pins σ H s->(∀ b ∈ fp,Bh X pins H b)->tn i s.heap->J.go i H ->
  wpAny (model P w) X.A (pyNext (.ref it)) (fun r s1=>∃ u,r = some u /\
   wpAny (model P w) X.A (letOwnedTupleGo tg (.ref it) u) (fun _ s2=>∃ x H',Inv X pins σ H' s2/\RelV x u/\J.yld i H x H'/\tn (i + 1) s2.heap/\∀ b ∈ fp,H' b = none) E s1) E s
 done:∀ (X:Cx),X.prog = P->X.w = w->X.K = K->X.calm = true->∀ (i:Nat) (pins:List (Addr × Obj)) (s:Shared) (σ:St) (H:Hp) (E:Value->Shared->Prop),Inv X pins σ H s->(∀ b ∈ fp,Bh X pins H b)->tn i s.heap->J.stop i H ->
  wpAny (model P w) X.A (pyNext (.ref it)) (fun r s1=>r = none/\Inv X pins σ H s1) E s
 self:∀ (A:Around) (i:Nat) (s:Shared) (Q:Value->Shared->Prop) (E:Value->Shared->Prop),tn i s.heap->Q (.ref it) s->wpAny (model P w) A (pyIter (.ref it)) Q E s
noncomputable abbrev TI:=St->Hp->(It->Hp->Prop)->Prop
noncomputable def PIE (X:Cx) (pins:List (Addr × Obj)) (σ:St) (tg:Expr) (R:It->Hp->Prop) (itv:Value) (s2:Shared):Prop :=
 ∃ (it:Addr) (fp:List Addr) (tn:Nat->Heap->Prop) (J:It) (H':Hp),itv = .ref it/\Inv X pins σ H' s2/\Turn X.prog X.w X.K tg J fp it tn/\tn 0 s2.heap/\(∀ b ∈ fp,Bh X pins H' b)/\R J H'
noncomputable def PI (X:Cx) (tg iter:Expr) (wi:TI):Prop :=
 ∀ (pins:List (Addr × Obj)) (s:Shared) (σ:St) (H:Hp) (R:It->Hp->Prop),Inv X pins σ H s->wi σ H R ->
  wpAny (model X.prog X.w) X.A (eval iter X.env) (fun v s1=>wpAny (model X.prog X.w) X.A (pyIter v) (PIE X pins σ tg R) X.xe s1) X.xe s
theorem Qi {M:Model} {A:Around} {E:Value->Shared->Prop} {s:Shared} {tg:Expr} {it:Addr} {u:Value} {o:Obj} {n:String} {vs:Array Value} {Q:Unit->Shared->Prop} (ho:s.heap.get? it = some o) (hc:o.cls = .type n) (hd:o.data = .fields vs)
    (hn:["enumerate", "zip", "dict_itemiterator", "dict_reverseitemiterator", "odict_iterator", "itertools.zip_longest", "itertools.pairwise"].contains n = false) (hQ:Q () s):wpAny M A (letOwnedTupleGo tg (.ref it) u) Q E s:=by
  unfold letOwnedTupleGo
  cases tg <;> first
    | exact wpAny_pure hQ
    | (cases u <;> first
        | exact wpAny_pure hQ
        | (refine wpAny_bind (wpAny_load ho ?_)
           rw [hc,hd]
           show wpAny M A (if (["enumerate", "zip", "dict_itemiterator", "dict_reverseitemiterator", "odict_iterator", "itertools.zip_longest", "itertools.pairwise"].contains n && vs[0]? == some (rawInt _)) = true then _ else _) Q E s
           rw [if_neg (by intro h; rw [hn,Bool.false_and] at h; cases h)]
           exact wpAny_pure hQ))
noncomputable def Itl (K:PySem.W.Frag) (a:Addr):It :=
 ⟨fun i H=>∃ xs x,SqL K H a xs/\xs[i]? = some x,fun i H x H'=>H' = H/\∀ xs,SqL K H a xs->xs[i]? = some x,fun i H=>∃ xs,SqL K H a xs/\xs.length<=i⟩
noncomputable def Itt (K:PySem.W.Frag) (a:Addr):It :=
 ⟨fun i H=>∃ xs x,SqT K H a xs/\xs[i]? = some x,fun i H x H'=>H' = H/\∀ xs,SqT K H a xs->xs[i]? = some x,fun i H=>∃ xs,SqT K H a xs/\xs.length<=i⟩
noncomputable def Itr (lo:Int) (n:Nat):It:=⟨fun i _=>i < n,fun i H x H'=>H' = H/\x = .int (lo + i),fun i _=>n<=i⟩
theorem Eo {P:Program} {w:World} {K:PySem.W.Frag} {tg:Expr} (a it:Addr):Turn P w K tg (Itl K a) [it] it (fun i h=>h.IsListIter it a i) where
 mem:=by simp
 obj:=fun i h st b hb=>by
  have e:b = it:=by simpa using hb
  subst e
  obtain ⟨o,e,c,d⟩:=st
  exact ⟨o,e,fun v z=>by rw [d] at z; cases z⟩
 keep:=fun i h h' st k=>st.at fun o e=>k it (by simp) o e
 item:=by
  intro X hP hw hK hc i pins s σ H E I hf st hg
  subst hP hw hK
  obtain ⟨xs,x,hq,hx⟩:=hg
  obtain ⟨its,rv,p,hz⟩:=I.list hq
  obtain ⟨u,hu,ru⟩:=rv.get hx
  obtain ⟨f0,f1,f2,f3,f4,f5⟩:=hf it (by simp)
  refine wpAny_pyNext_list_item st p.isList (x:=u) (by simpa using hu) fun h' st' sb=>?_
  have I1:Inv X pins σ H { s with heap:=h' }:=I.turned (t':=s.toks) (fun b o hb e=>(sb.2 b hb).trans e) f0 f1 f3 f4 f5
  obtain ⟨o,e,c,d⟩:=id st'
  exact ⟨u,rfl,Qi (s:={ s with heap:=h' }) e c d (by decide) ⟨x,H,I1,ru,⟨rfl,fun ys hy=>by rw [I.list_inj hy hq]; exact hx⟩,st',fun b hb=>(hf b hb).1⟩⟩
 done:=by
  intro X hP hw hK hc i pins s σ H E I hf st hg
  subst hP hw hK
  obtain ⟨xs,hq,hx⟩:=hg
  obtain ⟨its,rv,p,hz⟩:=I.list hq
  obtain ⟨f0,f1,f2,f3,f4,f5⟩:=hf it (by simp)
  have hl:=rv.length
  exact wpAny_pyNext_list_end (I.ok.hd hc) st p.isList (by simp; omega) fun h' eb=>⟨rfl,I.turned (t':=s.toks) (fun b o hb e=>eb b o hb e) f0 f1 f3 f4 f5⟩
 self:=fun _ _ _ _ _ st h=>wpAny_pyIter_listiter st h
theorem Lf {P:Program} {w:World} {K:PySem.W.Frag} {tg:Expr} (a it:Addr):Turn P w K tg (Itt K a) [it] it (fun i h=>h.IsTupleIter it a i) where
 mem:=by simp
 obj:=fun i h st b hb=>by
  have e:b = it:=by simpa using hb
  subst e
  obtain ⟨o,e,c,d⟩:=st
  exact ⟨o,e,fun v z=>by rw [d] at z; cases z⟩
 keep:=fun i h h' st k=>st.at fun o e=>k it (by simp) o e
 item:=by
  intro X hP hw hK hc i pins s σ H E I hf st hg
  subst hP hw hK
  obtain ⟨xs,x,hq,hx⟩:=hg
  obtain ⟨its,rv,p,hz⟩:=I.tuple hq
  obtain ⟨u,hu,ru⟩:=rv.get hx
  obtain ⟨f0,f1,f2,f3,f4,f5⟩:=hf it (by simp)
  refine wpAny_pyNext_tuple_item st (show s.heap.IsTuple a its.toArray from p) (x:=u) (by simpa using hu) fun h' st' sb=>?_
  have I1:Inv X pins σ H { s with heap:=h' }:=I.turned (t':=s.toks) (fun b o hb e=>(sb.2 b hb).trans e) f0 f1 f3 f4 f5
  obtain ⟨o,e,c,d⟩:=id st'
  exact ⟨u,rfl,Qi (s:={ s with heap:=h' }) e c d (by decide) ⟨x,H,I1,ru,⟨rfl,fun ys hy=>by rw [I.tuple_inj hy hq]; exact hx⟩,st',fun b hb=>(hf b hb).1⟩⟩
 done:=by
  intro X hP hw hK hc i pins s σ H E I hf st hg
  subst hP hw hK
  obtain ⟨xs,hq,hx⟩:=hg
  obtain ⟨its,rv,p,hz⟩:=I.tuple hq
  obtain ⟨f0,f1,f2,f3,f4,f5⟩:=hf it (by simp)
  have hl:=rv.length
  exact wpAny_pyNext_tuple_end (I.ok.hd hc) st (show s.heap.IsTuple a its.toArray from p) (by simp; omega) fun h' eb=>⟨rfl,I.turned (t':=s.toks) (fun b o hb e=>eb b o hb e) f0 f1 f3 f4 f5⟩
 self:=fun _ _ _ _ _ st h=>wpAny_pyIter_tupleiter st h
theorem Kt {P:Program} {w:World} {K:PySem.W.Frag} {tg:Expr} (it:Addr) (lo:Int) (n:Nat):Turn P w K tg (Itr lo n) [it] it (fun i h=>IsRangeIter h it (lo + (i:Nat) * 1) ((n:Int) - (i:Nat)) 1) where
 mem:=by simp
 obj:=fun i h st b hb=>by
  have e:b = it:=by simpa using hb
  subst e
  exact ⟨_,st,fun v z=>by
   have z':Data.fields _ = Data.cell v:=z
   cases z'⟩
 keep:=fun i h h' st k=>k it (by simp) _ st
 item:=by
  intro X hP hw hK hc i pins s σ H E I hf st hg
  subst hP hw hK
  obtain ⟨f0,f1,f2,f3,f4,f5⟩:=hf it (by simp)
  have W:=Walks.range (prog:=X.prog) (w:=X.w) (I.ok.hd hc) it lo 1 n
  refine W.item i s _ _ hg st fun v h' tk hv st' kk=>?_
  obtain ⟨t,rfl⟩:=hv
  have I1:Inv X pins σ H { s with heap:=h',toks:=tk }:=I.turned (fun b o hb e=>kk b o (by simpa using hb) e) f0 f1 f3 f4 f5
  refine ⟨_,rfl,Qi (s:={ s with heap:=h',toks:=tk }) (n := "range_iterator") st' rfl rfl (by decide) ⟨.int (lo + i),H,I1,⟨t,?_⟩,⟨rfl,rfl⟩,st',fun b hb=>(hf b hb).1⟩⟩
  rw [Int.mul_one]
 done:=by
  intro X hP hw hK hc i pins s σ H E I hf st hg
  subst hP hw hK
  obtain ⟨f0,f1,f2,f3,f4,f5⟩:=hf it (by simp)
  exact wpAny_pyNext_range_end (I.ok.hd hc) st (by have:n<=i:=hg; omega) fun h' eb=>⟨rfl,I.turned (t':=s.toks) (fun b o hb e=>eb b o hb e) f0 f1 f3 f4 f5⟩
 self:=fun _ _ _ _ _ st h=>wpAny_pyIter_rangeiter st h
end L2
namespace L2
open PySem PySem.Spec PyProof.Rows
section
variable {X:Cx} {tg:Expr}
noncomputable def Xt (K:PySem.W.Frag) (tl:TE):TI:=fun σ H R=>tl σ H fun x H1=>∃ a,x = .ref a/\(∃ xs,SqL K H1 a xs)/\R (Itl K a) H1
theorem Uw {l:Expr} {tl:TE} (hl:PE X l tl):PI X tg l (Xt X.K tl):=by
 intro pins s σ H R I h
 refine thn (hl pins s σ H _ I h) fun v s1 ⟨x,H1,I1,r1,q1⟩=>?_
 obtain ⟨a,e,⟨xs,hq⟩,q⟩:=q1
 subst e
 cases r1
 obtain ⟨its,rv,p,hz⟩:=I1.list hq
 refine wpAny_pyIter_list p.isList ?_
 refine ⟨s1.heap.objs.size,[s1.heap.objs.size],_,_,H1,rfl,I1.kept (t':=s1.toks) fun b o e=>Heap.get?_push_of_some _ e,Eo a _,⟨_,Heap.get?_push_size _ rfl,rfl,rfl⟩,fun b hb=>?_,q⟩
 have e:b = s1.heap.objs.size:=by simpa using hb
 subst e
 exact I1.fpOk (Nat.le_refl _) (I1.hok.fresh (Nat.le_refl _))
theorem Sf {pins:List (Addr × Obj)} {σ:St} {H:Hp} {s:Shared} {R:It->Hp->Prop} {E:Value->Shared->Prop} {lo hi:Int} {t u v:Tok} {tk:Nat} (I:Inv X pins σ H s) (h1:-(2 ^ 62)<=lo) (h2:lo < 2 ^ 62) (h3:-(2 ^ 62)<=hi) (h4:hi < 2 ^ 62)
  (q:R (Itr lo (hi - lo).toNat) H):wpAny (model X.prog X.w) X.A (pyIter (.ref s.heap.objs.size)) (PIE X pins σ tg R) E { s with heap:=s.heap.push { cls:=.type "range",data:=.fields #[.int lo t,.int hi u,.int 1 v] },toks:=tk }:=by
 refine wpAny_pyIter_range (IsRange.new ..) (small_one h1 h2 h3 h4) ?_
 have I1:Inv X pins σ H { s with heap:=s.heap.push { cls:=.type "range",data:=.fields #[.int lo t,.int hi u,.int 1 v] },toks:=tk }:=I.kept fun b o e=>Heap.get?_push_of_some _ e
 refine ⟨(s.heap.push { cls:=.type "range",data:=.fields #[.int lo t,.int hi u,.int 1 v] }).objs.size,[(s.heap.push { cls:=.type "range",data:=.fields #[.int lo t,.int hi u,.int 1 v] }).objs.size],_,_,H,rfl,
  I1.kept (t':=tk) fun b o e=>Heap.get?_push_of_some _ e,Kt _ lo (hi - lo).toNat,?_,fun b hb=>?_,q⟩
 ·have e1:lo + ((0:Nat):Int) * 1 = lo:=by simp
  have e2:(((hi - lo).toNat:Nat):Int) - ((0:Nat):Int) = Builtin.Range.rangeSize lo hi 1:=by rw [rangeSize_one]; split <;> omega
  show IsRangeIter _ _ (lo + ((0:Nat):Int) * 1) ((((hi - lo).toNat:Nat):Int) - ((0:Nat):Int)) 1
  rw [e1,e2]
  exact Heap.get?_push_size _ rfl
 ·have e:b = (s.heap.push { cls:=.type "range",data:=.fields #[.int lo t,.int hi u,.int 1 v] }).objs.size:=by simpa using hb
  subst e
  exact I1.fpOk (Nat.le_refl _) (I1.hok.fresh (Nat.le_refl _))
noncomputable def Yh (ta:TA):TI:=fun σ H R=>ta σ H fun vs H1=>∃ j:Int,vs = [.int j]/\-(2 ^ 62)<=j/\j < 2 ^ 62/\R (Itr 0 j.toNat) H1
theorem Qc {a:Expr} {ta:TA} {p pos:Pos} (hg:Gl X "range") (hm:X.mg "range" = none) (ha:PA X [a] ta) (hs:starEach [a] X.env = [(false,eval a X.env)]:=by rfl):PI X tg (.Call (.Name "range" p) [a] [] pos) (Yh ta):=by
 intro pins s σ H R I h
 refine Call_ (t9 I hg hm boot_range (PyProof.Rows.callWith_type1 (thn (ha pos pins s σ H _ I h) fun us s1 ⟨vs,H1,I1,r1,q1⟩=>?_) hs rfl))
 obtain ⟨j,e,q1,q2,q⟩:=q1
 subst e
 cases r1 with
 | cons r rr =>
  cases rr
  obtain ⟨t,rfl⟩:=r
  exact call_range_1 (Sf I1 (by omega) (by omega) q1 q2 (by simpa using q))
noncomputable def zCz (wi:TI) (g:TG) (tb:TS):TS:=fun D σ H=>wi σ H fun J H1=>∃ W:Nat->Nat->St->Hp->Prop,(∃ m,W 0 m σ H1)/\∀ i m σ H,W i m σ H ->
 (J.stop i H/\D.nx σ H)\/(J.go i H/\∃ N:St->Hp->Prop,(∀ σ' H',N σ' H'->∃ m',m' < m/\W (i + 1) m' σ' H')/\∀ x H',J.yld i H x H'->g x σ H' fun σ2 H2=>tb { D with nx:=N,ct:=N,bk:=D.nx } σ2 H2)
noncomputable def Es (fp:List Addr) (h:Heap):List (Addr × Obj):=fp.filterMap fun b=>(h.get? b).map fun o=>(b,o)
theorem T3 {fp:List Addr} {h:Heap} {b:Addr} {o:Obj} (hb:b ∈ fp) (e:h.get? b = some o):(b,o) ∈ Es fp h:=List.mem_filterMap.mpr ⟨b,hb,by rw [e]; rfl⟩
theorem Ma {fp:List Addr} {h:Heap} {p:Addr × Obj} (hp:p ∈ Es fp h):p.1 ∈ fp/\h.get? p.1 = some p.2:=by
 obtain ⟨b,hb,e⟩:=List.mem_filterMap.mp hp
 cases q:h.get? b with
 | none=>rw [q] at e; cases e
 | some o =>
  rw [q] at e
  have e':(b,o) = p:=Option.some.inj e
  subst e'
  exact ⟨hb,q⟩
theorem Inv.pinned {pins:List (Addr × Obj)} {σ:St} {H:Hp} {s:Shared} {fp:List Addr} (I:Inv X pins σ H s) (hf:∀ b ∈ fp,Bh X pins H b) (ho:∀ b ∈ fp,∃ o,s.heap.get? b = some o/\∀ v,o.data ≠ .cell v):Inv X (pins ++ Es fp s.heap) σ H s :=
 I.pins_of fun p hp=>(List.mem_append.mp hp).elim (fun z=>I.pin p (List.mem_append_right _ z)) fun z=>by
  obtain ⟨hb,e⟩:=Ma z
  obtain ⟨f0,f1,f2,_⟩:=hf p.1 hb
  obtain ⟨o,e',d⟩:=ho p.1 hb
  rw [e] at e'; cases e'
  exact ⟨e,f0,f1,f2,d⟩
theorem Inv.unpinned {pins pl:List (Addr × Obj)} {σ:St} {H:Hp} {s:Shared} (I:Inv X (pins ++ pl) σ H s):Inv X pins σ H s:=I.pins_of fun p hp=>I.pin p (List.mem_append_right _ (List.mem_append_left _ hp))
theorem S9 {iter:Expr} {body:List Stmt} {wi:TI} {g:TG} {tb:TS} {pos:Pos} (hp:PassesOwn (model X.prog X.w) X.A X.env X.xe) (hc:X.calm = true) (hi:PI X tg iter wi) (hg:PG X tg g) (hb:PSs X body tb)
  (hs:∀ x,foldedSetIterable iter X.env x = pure x:=by intro _; rfl):PS X (.For tg iter body [] pos) (zCz wi g tb):=by
 intro pins s σ H D I h
 refine wpAny_For (thn (hi pins s σ H _ I h) fun v s1 h1=>thn h1 fun itv s2 h2=>?_) hs
 obtain ⟨it,fp,tn,J,H2,e,I2,T,st2,f2,W,⟨m0,w0⟩,turn⟩:=h2
 subst e
 have stat:∀ {H':Hp},(∀ b ∈ fp,H' b = none)->∀ b ∈ fp,Bh X pins H' b:=fun hn b hb=>⟨hn b hb,(f2 b hb).2⟩
 refine codeAny_forLoop_any (fun n s'=>∃ i σ' H',Inv X pins σ' H' s'/\tn i s'.heap/\(∀ b ∈ fp,H' b = none)/\W i n σ' H') ?_ m0 ⟨0,σ,H2,I2,st2,fun b hb=>(f2 b hb).1,w0⟩
 rintro n s3 ⟨i,σ3,H3,I3,st3,fr3,w3⟩
 rcases turn i n σ3 H3 w3 with ⟨stop,qn⟩ | ⟨go,N,hN,step⟩
 ·refine wpAny_passesOwn hp (thn (T.done X rfl rfl rfl hc i pins s3 σ3 H3 X.xe I3 (stat fr3) st3 stop) fun r s4 ⟨hr,I4⟩=>?_)
  subst hr
  exact wpAny_execs_nil ⟨σ3,H3,I4,qn⟩
 ·refine wpAny_passesOwn hp (thn (T.item X rfl rfl rfl hc i pins s3 σ3 H3 X.xe I3 (stat fr3) st3 go) fun r s4 ⟨u,hr,h4⟩=>?_)
  subst hr
  refine wpAny_passesOwn hp (thn h4 fun _ s5 ⟨x,H5,I5,r5,y5,st5,fr5⟩=>?_)
  have I5':=I5.pinned (stat fr5) (T.obj _ _ st5)
  refine wpAny_passesOwn hp (thn (hg _ s5 σ3 H5 x u _ I5' r5 (step x H5 y5)) fun _ s6 ⟨σ6,H6,I6,q6⟩=>?_)
  refine wpAny_passesOwn hp (thn (hb _ s6 σ6 H6 _ I6 q6) fun f s7 q7=>?_)
  have again:∀ {σ7:St} {H7:Hp},Inv X (pins ++ Es fp s5.heap) σ7 H7 s7->N σ7 H7->∃ m,m < n/\∃ i σ' H',Inv X pins σ' H' s7/\tn i s7.heap/\(∀ b ∈ fp,H' b = none)/\W i m σ' H':=fun {σ7 H7} I7 n7=>by
   obtain ⟨m',hm,w7⟩:=hN σ7 H7 n7
   refine ⟨m',hm,i + 1,σ7,H7,I7.unpinned,T.keep _ _ _ st5 fun b hb o e=>(I7.pin (b,o) (List.mem_append_right _ (List.mem_append_right _ (T3 hb e)))).1,fun b hb=>?_,w7⟩
   obtain ⟨o,e,d⟩:=T.obj _ _ st5 b hb
   exact (I7.pin (b,o) (List.mem_append_right _ (List.mem_append_right _ (T3 hb e)))).2.1
  cases f with
  | next=>obtain ⟨σ7,H7,I7,n7⟩:=q7; exact again I7 n7
  | cont=>obtain ⟨σ7,H7,I7,n7⟩:=q7; exact again I7 n7
  | brk=>obtain ⟨σ7,H7,I7,q7⟩:=q7; exact ⟨σ7,H7,I7.unpinned,q7⟩
  | ret v=>obtain ⟨x7,σ7,H7,I7,r7,q7⟩:=q7; exact ⟨x7,σ7,H7,I7.unpinned,r7,q7⟩
end
theorem Nq {lo:Int} {n:Nat} {g:TG} {tb:TS} {D:Ends} {σ:St} {H:Hp} (Pv:Nat->St->Hp->Prop) (h0:Pv 0 σ H)
  (hs:∀ i σ H,i < n->Pv i σ H->g (.int (lo + i)) σ H fun σ2 H2=>tb { D with nx:=Pv (i + 1),ct:=Pv (i + 1),bk:=D.nx } σ2 H2) (hd:∀ σ H,Pv n σ H->D.nx σ H) :
  ∃ W:Nat->Nat->St->Hp->Prop,(∃ m,W 0 m σ H)/\∀ i m σ H,W i m σ H ->
   ((Itr lo n).stop i H/\D.nx σ H)\/((Itr lo n).go i H/\∃ N:St->Hp->Prop,(∀ σ' H',N σ' H'->∃ m',m' < m/\W (i + 1) m' σ' H')/\∀ x H',(Itr lo n).yld i H x H'->g x σ H' fun σ2 H2=>tb { D with nx:=N,ct:=N,bk:=D.nx } σ2 H2):=by
 refine ⟨fun i m σ H=>m = n - i/\i<=n/\Pv i σ H,⟨n,by simp,Nat.zero_le _,h0⟩,?_⟩
 rintro i m σ H ⟨rfl,hi,p⟩
 by_cases hlt:i < n
 ·refine .inr ⟨hlt,Pv (i + 1),fun σ' H' p'=>⟨n - (i + 1),by omega,rfl,hlt,p'⟩,fun x H' y=>?_⟩
  obtain ⟨e,y⟩:=y
  subst e y
  exact hs i σ _ hlt p
 ·have e:i = n:=by omega
  subst e
  exact .inl ⟨Nat.le_refl _,hd σ H p⟩
end L2
namespace L2
open PySem PySem.Spec PyProof.Rows
noncomputable abbrev R2:=V->V->Hp->VK->Prop
noncomputable def OpR (X:Cx) (f:Value->Value->Sem Value) (r:R2):Prop :=
 ∀ (pins:List (Addr × Obj)) (s:Shared) (σ:St) (H:Hp) (x y:V) (v u:Value) (Q:VK),Inv X pins σ H s->RelV x v->RelV y u->r x y H Q ->
  wpAny (model X.prog X.w) X.A (f v u) (EP X pins σ Q) X.xe s
noncomputable def UnR (X:Cx) (f:Value->Sem Value) (r:V->Hp->VK->Prop):Prop :=
 ∀ (pins:List (Addr × Obj)) (s:Shared) (σ:St) (H:Hp) (x:V) (v:Value) (Q:VK),Inv X pins σ H s->RelV x v->r x H Q ->
  wpAny (model X.prog X.w) X.A (f v) (EP X pins σ Q) X.xe s
noncomputable def E9 (X:Cx) (f:Value) (r:List V->Hp->VK->Prop):Prop :=
 ∀ (pins:List (Addr × Obj)) (s:Shared) (σ:St) (H:Hp) (xs:List V) (us:List Value) (Q:VK),Inv X pins σ H s->Vals xs us->r xs H Q ->
  wpAny (model X.prog X.w) X.A (call f us) (EP X pins σ Q) X.xe s
noncomputable def zCs (X:Cx) (r:V->Hp->(Bool->Hp->Prop)->Prop):Prop :=
 ∀ (pins:List (Addr × Obj)) (s:Shared) (σ:St) (H:Hp) (x:V) (v:Value) (Q:Bool->Hp->Prop),Inv X pins σ H s->RelV x v->r x H Q ->
  wpAny (model X.prog X.w) X.A (truthy v) (TP X pins σ Q) X.xe s
noncomputable def tOp (r:R2) (ta tb:TE):TE:=fun σ H Q=>ta σ H fun x H1=>tb σ H1 fun y H2=>r x y H2 Q
noncomputable def tUn (r:V->Hp->VK->Prop) (ta:TE):TE:=fun σ H Q=>ta σ H fun x H1=>r x H1 Q
noncomputable def rI (C:Int->Int->Prop) (g:Int->Int->V):R2:=fun x y H Q=>∃ i j,x = .int i/\y = .int j/\C i j/\Q (g i j) H
noncomputable def rI0 (g:Int->Int->V):R2:=fun x y H Q=>∃ i j,x = .int i/\y = .int j/\Q (g i j) H
noncomputable def rU (g:Int->V):V->Hp->VK->Prop:=fun x H Q=>∃ i,x = .int i/\Q (g i) H
section
variable {X:Cx} {a b c:Expr} {ta tb tc:TE} {pos:Pos}
theorem zBb (ha:PE X a ta) (hb:PE X b tb) {pins:List (Addr × Obj)} {s:Shared} {σ:St} {H:Hp} {R:V->V->Hp->Prop} (I:Inv X pins σ H s)
  (h:ta σ H fun x H1=>tb σ H1 fun y H2=>R x y H2) {Q:Value->Shared->Prop} {f:Value->Value->Sem Value}
  (hf:∀ v u s2 x y H2,Inv X pins σ H2 s2->RelV x v->RelV y u->R x y H2->wpAny (model X.prog X.w) X.A (f v u) Q X.xe s2) :
  wpAny (model X.prog X.w) X.A (eval a X.env) (fun v s₁=>wpAny (model X.prog X.w) X.A (eval b X.env) (fun u s₂=>wpAny (model X.prog X.w) X.A (f v u) Q X.xe s₂) X.xe s₁) X.xe s:=by
 refine thn (ha pins s σ H _ I h) fun v s1 ⟨x,H1,I1,r1,q1⟩=>?_
 refine thn (hb pins s1 σ H1 _ I1 q1) fun u s2 ⟨y,H2,I2,r2,q2⟩=>?_
 exact hf v u s2 x y H2 I2 r1 r2 q2
theorem K0 {op:Operator} {r:R2} (ho:OpR X (binaryOp op) r) (ha:PE X a ta) (hb:PE X b tb):PE X (.BinOp a op b pos) (tOp r ta tb):=by
 intro pins s σ H Q I h
 exact wpAny_BinOp (zBb ha hb I h fun v u s2 x y H2 I2 rx ry q=>ho pins s2 σ H2 x y v u Q I2 rx ry q)
theorem Td {op:UnaryOp} {r:V->Hp->VK->Prop} (ho:UnR X (unaryOp op) r) (ha:PE X a ta):PE X (.UnaryOp op a pos) (tUn r ta):=by
 intro pins s σ H Q I h
 exact UnaryOp_ (thn (ha pins s σ H _ I h) fun v s1 ⟨x,H1,I1,r1,q1⟩=>ho pins s1 σ H1 x v Q I1 r1 q1)
theorem opI {f:Value->Value->Sem Value} {C:Int->Int->Prop} {g:Int->Int->Int}
  (rule:∀ (i j:Int) (t u:Tok) (s:Shared) (Q:Value->Shared->Prop) (E:Value->Shared->Prop),C i j->Q (.int (g i j) s.toks) { s with toks:=s.toks + 1 }->wpAny (model X.prog X.w) X.A (f (.int i t) (.int j u)) Q E s) :
  OpR X f (rI C fun i j=>.int (g i j)):=by
 intro pins s σ H x y v u Q I rx ry h
 obtain ⟨i,j,rfl,rfl,hc,q⟩:=h
 obtain ⟨t,rfl⟩:=rx
 obtain ⟨t',rfl⟩:=ry
 exact rule i j t t' s _ _ hc ⟨.int (g i j),H,I.tok _,⟨_,rfl⟩,q⟩
theorem zAg {f:Value->Value->Sem Value} {g:Int->Int->Int}
  (rule:∀ (i j:Int) (t u:Tok) (s:Shared) (Q:Value->Shared->Prop) (E:Value->Shared->Prop),Q (.int (g i j) s.toks) { s with toks:=s.toks + 1 }->wpAny (model X.prog X.w) X.A (f (.int i t) (.int j u)) Q E s) :
  OpR X f (rI0 fun i j=>.int (g i j)):=by
 intro pins s σ H x y v u Q I rx ry h
 obtain ⟨i,j,rfl,rfl,q⟩:=h
 obtain ⟨t,rfl⟩:=rx
 obtain ⟨t',rfl⟩:=ry
 exact rule i j t t' s _ _ ⟨.int (g i j),H,I.tok _,⟨_,rfl⟩,q⟩
theorem zAd {f:Value->Value->Sem Value} {g:Int->Int->Bool}
  (rule:∀ (i j:Int) (t u:Tok) (s:Shared) (Q:Value->Shared->Prop) (E:Value->Shared->Prop),Q (.bool (g i j)) s->wpAny (model X.prog X.w) X.A (f (.int i t) (.int j u)) Q E s) :
  OpR X f (rI0 fun i j=>.bl (g i j)):=by
 intro pins s σ H x y v u Q I rx ry h
 obtain ⟨i,j,rfl,rfl,q⟩:=h
 obtain ⟨t,rfl⟩:=rx
 obtain ⟨t',rfl⟩:=ry
 exact rule i j t t' s _ _ ⟨.bl (g i j),H,I,rfl,q⟩
noncomputable def zCu (i j:Int):Prop:=0 < j/\j < 1073741824
noncomputable def zCn (i j:Int):Prop:=0<=j/\j<=1000000/\i.natAbs < 2 ^ 64
noncomputable def CMul (i j:Int):Prop:=(-(2 ^ 64) < i/\i < 2 ^ 64)\/(-(2 ^ 64) < j/\j < 2 ^ 64)
theorem CMul.ok {i j:Int} (h:CMul i j):IntMulOk i j:=by
 rcases h with ⟨h1,h2⟩ | ⟨h1,h2⟩
 ·exact .of_left (intBits_le_64 h1 h2)
 ·exact .of_right (intBits_le_64 h1 h2)
theorem y7:OpR X (binaryOp .Add) (rI0 fun i j=>.int (i + j)):=zAg fun _ _ _ _ _ _ _ q=>add_int q
theorem Zl:OpR X (binaryOp .Sub) (rI0 fun i j=>.int (i - j)):=zAg fun _ _ _ _ _ _ _ q=>sub_int q
theorem Bj:OpR X (binaryOp .Mult) (rI CMul fun i j=>.int (i * j)):=opI fun _ _ _ _ _ _ _ hc q=>mul_int q hc.ok
theorem Pg:OpR X (binaryOp .FloorDiv) (rI zCu fun i j=>.int (i / j)):=opI fun i j _ _ _ _ _ hc q=>by
 have h1:(0:Int) < j:=hc.1
 have h2:j < 1073741824:=hc.2
 exact floordiv_int (by omega) (by rw [Int.fdiv_eq_ediv_of_nonneg i (by omega)]; exact q) (.inl (PyProof.noPylong_small (by omega)))
theorem b9:OpR X (binaryOp .Mod) (rI (fun _ j=>0 < j) fun i j=>.int (i % j)):=opI fun i j _ _ _ _ _ hc q=>by
 have h1:(0:Int) < j:=hc
 exact mod_int' (by omega) (by rw [Int.fmod_eq_emod_of_nonneg i (by omega)]; exact q)
theorem Yw:OpR X (binaryOp .Pow) (rI zCn fun i j=>.int (i ^ j.toNat)):=opI fun _ _ _ _ _ _ _ hc q=>pow_int_small hc.1 hc.2.1 hc.2.2 q
theorem Ym:OpR X (binaryOp .BitAnd) (rI0 fun i j=>.int (Builtin.bitAnd i j)):=zAg fun _ _ _ _ _ _ _ q=>and_int q
theorem unI {f:Value->Sem Value} {g:Int->Int}
  (rule:∀ (i:Int) (t:Tok) (s:Shared) (Q:Value->Shared->Prop) (E:Value->Shared->Prop),Q (.int (g i) s.toks) { s with toks:=s.toks + 1 }->wpAny (model X.prog X.w) X.A (f (.int i t)) Q E s) :
  UnR X f (rU fun i=>.int (g i)):=by
 intro pins s σ H x v Q I rx h
 obtain ⟨i,rfl,q⟩:=h
 obtain ⟨t,rfl⟩:=rx
 exact rule i t s _ _ ⟨.int (g i),H,I.tok _,⟨_,rfl⟩,q⟩
theorem Jn:UnR X (unaryOp .USub) (rU fun i=>.int (-i)):=unI fun _ _ _ _ _ q=>neg_int q
end
noncomputable def zBv:V->V->Bool
 | .non,.non=>true | .non,.int _=>true | .int _,.non=>true | .non,.bl _=>true | .bl _,.non=>true | .non,.str _=>true | .str _,.non=>true
 | .int _,.int _=>true | .bl _,.bl _=>true | .str _,.str _=>true | .byt _,.byt _=>true
 | .int _,.str _=>true | .str _,.int _=>true | .bl _,.str _=>true | .str _,.bl _=>true
 | _,_=>false
noncomputable def rEq:R2:=fun x y H Q=>zBv x y = true/\Q (.bl (decide (x = y))) H
noncomputable def rNe:R2:=fun x y H Q=>zBv x y = true/\Q (.bl (!decide (x = y))) H
theorem Np {i j:Int}:decide (V.int i = V.int j) = (i == j):=by
 rw [Bool.eq_iff_iff]
 simp
theorem Ti {i j:Bool}:decide (V.bl i = V.bl j) = (i == j):=by
 rw [Bool.eq_iff_iff]
 simp
theorem Ou {i j:Str}:decide (V.str i = V.str j) = (i == j):=by
 rw [Bool.eq_iff_iff]
 simp
theorem Pw {i j:Array UInt8}:decide (V.byt i = V.byt j) = (i.toList == j.toList):=by
 rw [Bool.eq_iff_iff]
 cases i
 cases j
 simp
section
variable {X:Cx} {a b c:Expr} {ta tb tc:TE} {pos:Pos}
theorem D8 {pins:List (Addr × Obj)} {σ:St} {H:Hp} {s:Shared} {Q:VK} {k k':Bool} (I:Inv X pins σ H s) (q:Q (.bl k) H) (e:k = k'):EP X pins σ Q (.bool k') s:=by
 subst e
 exact ⟨.bl k,H,I,rfl,q⟩
theorem Q7:OpR X (compareOp .Eq) rEq:=by
 intro pins s σ H x y v u Q I rx ry h
 obtain ⟨hs,q⟩:=h
 cases x with
 | non =>
  cases rx
  cases y with
  | non=>cases ry; exact PySem.EqNone.eq_none_none (D8 I q (by simp))
  | bl j=>cases ry; exact PySem.EqNone.eq_none_bool (D8 I q (by simp))
  | int j=>obtain ⟨t',rfl⟩:=ry; exact PySem.EqNone.eq_none_int (D8 I q (by simp))
  | str j=>obtain ⟨t',rfl⟩:=ry; exact PySem.EqNone.eq_none_str (D8 I q (by simp))
  | _=>exact absurd (show false = true from hs) Bool.false_ne_true
 | bl i =>
  cases rx
  cases y with
  | non=>cases ry; exact PySem.EqNone.eq_bool_none (D8 I q (by simp))
  | bl j=>cases ry; exact eq_bool (D8 I q Ti)
  | str j=>obtain ⟨t',rfl⟩:=ry; exact PySem.EqMixed.eq_bool_str (D8 I q (by simp))
  | _=>exact absurd (show false = true from hs) Bool.false_ne_true
 | int i =>
  obtain ⟨t,rfl⟩:=rx
  cases y with
  | non=>cases ry; exact PySem.EqNone.eq_int_none (D8 I q (by simp))
  | int j=>obtain ⟨t',rfl⟩:=ry; exact eq_int (D8 I q Np)
  | str j=>obtain ⟨t',rfl⟩:=ry; exact PySem.EqMixed.eq_int_str (D8 I q (by simp))
  | _=>exact absurd (show false = true from hs) Bool.false_ne_true
 | str i =>
  obtain ⟨t,rfl⟩:=rx
  cases y with
  | non=>cases ry; exact PySem.EqNone.eq_str_none (D8 I q (by simp))
  | bl j=>cases ry; exact PySem.EqMixed.eq_str_bool (D8 I q (by simp))
  | int j=>obtain ⟨t',rfl⟩:=ry; exact PySem.EqMixed.eq_str_int (D8 I q (by simp))
  | str j=>obtain ⟨t',rfl⟩:=ry; exact eq_str (D8 I q Ou)
  | _=>exact absurd (show false = true from hs) Bool.false_ne_true
 | byt i =>
  obtain ⟨t,rfl⟩:=rx
  cases y with
  | byt j=>obtain ⟨t',rfl⟩:=ry; exact PySem.W.eq_bytes (D8 I q Pw)
  | _=>exact absurd (show false = true from hs) Bool.false_ne_true
 | _=>cases y <;> exact absurd (show false = true from hs) Bool.false_ne_true
theorem Ld:OpR X (compareOp .NotEq) rNe:=by
 intro pins s σ H x y v u Q I rx ry h
 obtain ⟨hs,q⟩:=h
 cases x with
 | non =>
  cases rx
  cases y with
  | non=>cases ry; exact PySem.EqNone.ne_none_none (D8 I q (by simp))
  | bl j=>cases ry; exact PySem.EqNone.ne_none_bool (D8 I q (by simp))
  | int j=>obtain ⟨t',rfl⟩:=ry; exact PySem.EqNone.ne_none_int (D8 I q (by simp))
  | str j=>obtain ⟨t',rfl⟩:=ry; exact PySem.EqNone.ne_none_str (D8 I q (by simp))
  | _=>exact absurd (show false = true from hs) Bool.false_ne_true
 | bl i =>
  cases rx
  cases y with
  | non=>cases ry; exact PySem.EqNone.ne_bool_none (D8 I q (by simp))
  | bl j=>cases ry; exact ne_bool (D8 I q (congrArg not Ti))
  | str j=>obtain ⟨t',rfl⟩:=ry; exact PySem.EqMixed.ne_bool_str (D8 I q (by simp))
  | _=>exact absurd (show false = true from hs) Bool.false_ne_true
 | int i =>
  obtain ⟨t,rfl⟩:=rx
  cases y with
  | non=>cases ry; exact PySem.EqNone.ne_int_none (D8 I q (by simp))
  | int j=>obtain ⟨t',rfl⟩:=ry; exact ne_int (D8 I q (congrArg not Np))
  | str j=>obtain ⟨t',rfl⟩:=ry; exact PySem.EqMixed.ne_int_str (D8 I q (by simp))
  | _=>exact absurd (show false = true from hs) Bool.false_ne_true
 | str i =>
  obtain ⟨t,rfl⟩:=rx
  cases y with
  | non=>cases ry; exact PySem.EqNone.ne_str_none (D8 I q (by simp))
  | bl j=>cases ry; exact PySem.EqMixed.ne_str_bool (D8 I q (by simp))
  | int j=>obtain ⟨t',rfl⟩:=ry; exact PySem.EqMixed.ne_str_int (D8 I q (by simp))
  | str j=>obtain ⟨t',rfl⟩:=ry; exact ne_str (D8 I q (congrArg not Ou))
  | _=>exact absurd (show false = true from hs) Bool.false_ne_true
 | byt i =>
  obtain ⟨t,rfl⟩:=rx
  cases y with
  | byt j=>obtain ⟨t',rfl⟩:=ry; exact PySem.W.ne_bytes (D8 I q (congrArg not Pw))
  | _=>exact absurd (show false = true from hs) Bool.false_ne_true
 | _=>cases y <;> exact absurd (show false = true from hs) Bool.false_ne_true
theorem zBh:OpR X (compareOp .Lt) (rI0 fun i j=>.bl (decide (i < j))):=zAd fun _ _ _ _ _ _ _ q=>lt_int q
theorem Zo:OpR X (compareOp .LtE) (rI0 fun i j=>.bl (decide (i<=j))):=zAd fun _ _ _ _ _ _ _ q=>le_int q
theorem Xf:OpR X (compareOp .Gt) (rI0 fun i j=>.bl (decide (j < i))):=zAd fun _ _ _ _ _ _ _ q=>gt_int q
theorem zAq:OpR X (compareOp .GtE) (rI0 fun i j=>.bl (decide (j<=i))):=zAd fun _ _ _ _ _ _ _ q=>ge_int q
theorem Nc:OpR X (compareOp .In) (fun x y H Q=>∃ i j,x = .str i/\y = .str j/\Q (.bl (!(Builtin.Str.occurrences j i 0 j.length 1).isEmpty)) H):=by
 intro pins s σ H x y v u Q I rx ry h
 obtain ⟨i,j,rfl,rfl,q⟩:=h
 obtain ⟨t,rfl⟩:=rx
 obtain ⟨t',rfl⟩:=ry
 exact in_str (D8 I q rfl)
theorem Xr:OpR X (compareOp .Is) (fun x y H Q=>y = .non/\Q (.bl (decide (x = .non))) H):=by
 intro pins s σ H x y v u Q I rx ry h
 obtain ⟨rfl,q⟩:=h
 cases ry
 refine is_none_gen (D8 I q ?_)
 cases x <;> first
  | (cases rx; rfl)
  | (obtain ⟨t,rfl⟩:=rx; rfl)
theorem C8 (b:Expr) {op:CmpOp} (h:op ≠ .In:=by decide) (h2:op ≠ .NotIn:=by decide):behindInMarks op b = false:=by
 have e1:(op == CmpOp.In) = false:=by cases op <;> first | rfl | exact absurd rfl h
 have e2:(op == CmpOp.NotIn) = false:=by cases op <;> first | rfl | exact absurd rfl h2
 cases b <;> simp [behindInMarks,e1,e2]
theorem I9 {op:CmpOp} {r:R2} (ho:OpR X (compareOp op) r) (ha:PE X a ta) (hb:PE X b tb) (hm:behindInMarks op b = false):PE X (.Compare a [op] [b] pos) (tOp r ta tb):=by
 intro pins s σ H Q I h
 exact wpAny_Compare1 (zBb ha hb I h fun v u s2 x y H2 I2 rx ry q=>ho pins s2 σ H2 x y v u Q I2 rx ry q) hm
noncomputable def Uy (t:TE):TT:=fun σ H Q=>t σ H fun x H'=>∃ k,x = .bl k/\Q k H'
theorem B9 {op:CmpOp} {r:R2} (ho:OpR X (compareOp op) r) (ha:PE X a ta) (hb:PE X b tb) (hm:behindInMarks op b = false):PT X (.Compare a [op] [b] pos) (Uy (tOp r ta tb)):=by
 intro pins s σ H Q I h
 refine wpAny_isTrue_Compare1 (thn (ha pins s σ H _ I h) fun v s1 ⟨x,H1,I1,r1,q1⟩=>thn (hb pins s1 σ H1 _ I1 q1) fun u s2 ⟨y,H2,I2,r2,q2⟩ =>
  thn (ho pins s2 σ H2 x y v u _ I2 r1 r2 q2) fun c s3 ⟨z,H3,I3,r3,k,e,q3⟩=>?_) hm
 subst e
 cases r3
 exact wpAny_truthy_bool ⟨H3,I3,q3⟩
noncomputable def Xx (r r':R2) (ta tb tc:TE):TE:=fun σ H Q=>ta σ H fun x H1=>tb σ H1 fun y H2=>r x y H2 fun z H3=>∃ k,z = .bl k /\
 (if k = true then tc σ H3 fun w' H4=>r' y w' H4 Q else Q (.bl false) H3)
theorem Qk {op op':CmpOp} {r r':R2} (ho:OpR X (compareOp op) r) (ho':OpR X (compareOp op') r') (ha:PE X a ta) (hb:PE X b tb) (hc:PE X c tc)
  (hm:lastMarks [op,op'] [b,c] = false:=by with_unfolding_all rfl):PT X (.Compare a [op,op'] [b,c] pos) (Uy (Xx r r' ta tb tc)):=by
 intro pins s σ H Q I h
 refine isTrue_chain (thn (ha pins s σ H _ I h) fun v s1 ⟨x,H1,I1,r1,q1⟩=>test_link (thn (hb pins s1 σ H1 _ I1 q1) fun u s2 ⟨y,H2,I2,r2,q2⟩ =>
  thn (ho pins s2 σ H2 x y v u _ I2 r1 r2 q2) fun d s3 ⟨z,H3,I3,r3,k,e,q3⟩=>?_)) hm
 subst e
 cases r3
 refine wpAny_truthy_bool ?_
 cases k with
 | false =>
  obtain ⟨k',e',q'⟩:=q3
  cases e'
  exact ite_ff ⟨H3,I3,q'⟩
 | true =>
  refine ite_tt (test_last (thn (hc pins s3 σ H3 _ I3 q3) fun w' s4 ⟨z',H4,I4,r4,q4⟩=>thn (ho' pins s4 σ H4 y z' u w' _ I4 r2 r4 q4) fun d' s5 ⟨z2,H5,I5,r5,k2,e2,q5⟩=>?_))
  subst e2
  cases r5
  exact wpAny_truthy_bool ⟨H5,I5,q5⟩
noncomputable def zAj (K:PySem.W.Frag) (x:V) (H:Hp) (k:Bool):Prop :=
 match x with
 | .non=>k = false
 | .bl b=>k = b
 | .int i=>k = (i != 0)
 | .str y=>y.length<=sizeLine/\k = ((y.length:Int) != 0)
 | .byt y=>y.size<=sizeLine/\k = ((y.size:Int) != 0)
 | .ref p=>(∃ xs,SqL K H p xs/\k = !xs.isEmpty)\/(∃ xs,SqT K H p xs/\k = !xs.isEmpty)\/∃ kvs,H p = some (.dK kvs)/\k = !kvs.isEmpty
 | _=>False
theorem Ky {κ:Type} {kvs:List (κ × V)} {vs:List (κ × Value)} (r:KV kvs vs):(!vs.isEmpty) = !kvs.isEmpty:=by
 cases r <;> rfl
theorem Bq {xs:List V} {its:List Value} (r:Vals xs its):(!its.toArray.isEmpty) = !xs.isEmpty:=by
 cases r <;> simp
theorem Bm:(sizeLine:Nat) < 2 ^ 63:=by rw [sizeLine_eq]; decide
theorem Zr:zCs X (fun x H Q=>∃ k,zAj X.K x H k/\Q k H):=by
 intro pins s σ H x v Q I rx h
 obtain ⟨k,e,q⟩:=h
 have hl:=Bm
 have hs:sizeLine = 16777216:=sizeLine_eq
 cases x with
 | non =>
  cases rx
  have e':k = false:=e
  subst e'
  exact truthy_none ⟨H,I,q⟩
 | bl b =>
  cases rx
  have e':k = b:=e
  subst e'
  exact wpAny_truthy_bool ⟨H,I,q⟩
 | int i =>
  obtain ⟨t,rfl⟩:=rx
  have e':k = (i != 0):=e
  subst e'
  exact PySem.P.truthy_int ⟨H,I,q⟩
 | str y =>
  obtain ⟨t,rfl⟩:=rx
  obtain ⟨hy,e'⟩:y.length<=sizeLine/\k = ((y.length:Int) != 0):=e
  subst e'
  exact PySem.P.truthy_str (by omega) ⟨H,I.tok _,q⟩
 | byt y =>
  obtain ⟨t,rfl⟩:=rx
  obtain ⟨hy,e'⟩:y.size<=sizeLine/\k = ((y.size:Int) != 0):=e
  subst e'
  exact PySem.W.truthy_bytes (by omega) ⟨H,I.tok _,q⟩
 | ref p =>
  cases rx
  have e':(∃ xs,SqL X.K H p xs/\k = !xs.isEmpty)\/(∃ xs,SqT X.K H p xs/\k = !xs.isEmpty)\/∃ kvs,H p = some (.dK kvs)/\k = !kvs.isEmpty:=e
  rcases e' with ⟨xs,hx,e'⟩ | ⟨xs,hx,e'⟩ | ⟨kvs,hx,e'⟩
  ·subst e'
   obtain ⟨its,r,pl,hz⟩:=I.list hx
   have hlen:=r.length
   exact wpAny_truthy_list pl.isList (by simp only [List.size_toArray]; omega) ⟨H,I.tok _,by rw [Bq r]; exact q⟩
  ·subst e'
   obtain ⟨its,r,pl,hz⟩:=I.tuple hx
   have hlen:=r.length
   exact truthy_tuple pl (by simp only [List.size_toArray]; omega) ⟨H,I.tok _,by rw [Bq r]; exact q⟩
  ·subst e'
   obtain ⟨hz,hS,vs,r,m⟩:kvs.length<=sizeLine/\(p == sysModules) = false/\∃ vs,KV kvs vs/\s.heap.DictOf (C2 X.prog X.w) p vs:=I.hok p _ hx
   have hlen:kvs.length = vs.length:=Paired.length r
   exact wpAny_truthy_dict hS m (by omega) ⟨H,I.tok _,by rw [Ky r]; exact q⟩
 | _=>exact (show False from e).elim
theorem Qw (ha:PE X a ta) (he:∀ whole,isTrue a X.env whole = (do let v <-whole; standAt a.pos; holding [v] (truthy v))) :
  PT X a (fun σ H Q=>ta σ H fun x H'=>∃ k,zAj X.K x H' k/\Q k H'):=by
 intro pins s σ H Q I h
 exact isTrue_plain (thn (ha pins s σ H _ I h) fun v s1 ⟨x,H1,I1,r1,q1⟩=>Zr pins s1 σ H1 x v Q I1 r1 q1) (he _)
theorem X1 {x:V} {us:List Value} (r:Vals [x] us):∃ u,us = [u]/\RelV x u:=by
 cases r with
 | cons r1 r2=>cases r2; exact ⟨_,rfl,r1⟩
theorem Zi {x y:V} {us:List Value} (r:Vals [x,y] us):∃ u w',us = [u,w']/\RelV x u/\RelV y w':=by
 cases r with
 | cons r1 r2 =>
  cases r2 with
  | cons r3 r4=>cases r4; exact ⟨_,_,rfl,r1,r3⟩
theorem Jh:E9 X (.builtin "abs") (fun xs H Q=>∃ i,xs = [.int i]/\Q (.int (if i < 0 then -i else i)) H):=by
 intro pins s σ H xs us Q I r h
 obtain ⟨i,rfl,q⟩:=h
 obtain ⟨u,rfl,t,rfl⟩:=X1 r
 exact call_abs_int fun u tk=>⟨.int (if i < 0 then -i else i),H,I.tok _,⟨_,rfl⟩,q⟩
theorem As (hc:X.calm = true):E9 X (.builtin "max") (fun xs H Q=>∃ i j,xs = [.int i,.int j]/\Q (.int (if j > i then j else i)) H):=by
 intro pins s σ H xs us Q I r h
 obtain ⟨i,j,rfl,q⟩:=h
 obtain ⟨u,w',rfl,⟨t,rfl⟩,⟨t',rfl⟩⟩:=Zi r
 refine max_two_ints (I.ok.hd hc) fun h' tk k=>⟨_,H,I.kept k,?_,q⟩
 by_cases hj:j > i
 ·rw [if_pos hj,if_pos hj]; exact ⟨_,rfl⟩
 ·rw [if_neg hj,if_neg hj]; exact ⟨_,rfl⟩
theorem Oq (hc:X.calm = true):E9 X (.builtin "min") (fun xs H Q=>∃ i j,xs = [.int i,.int j]/\Q (.int (if j < i then j else i)) H):=by
 intro pins s σ H xs us Q I r h
 obtain ⟨i,j,rfl,q⟩:=h
 obtain ⟨u,w',rfl,⟨t,rfl⟩,⟨t',rfl⟩⟩:=Zi r
 refine min_two_ints (I.ok.hd hc) fun h' tk k=>⟨_,H,I.kept k,?_,q⟩
 by_cases hj:j < i
 ·rw [if_pos hj,if_pos hj]; exact ⟨_,rfl⟩
 ·rw [if_neg hj,if_neg hj]; exact ⟨_,rfl⟩
theorem y9:E9 X (.type "int") (fun xs H Q=>(∃ i,xs = [.int i]/\Q (.int i) H)\/∃ k,xs = [.bl k]/\Q (.int (if k then 1 else 0)) H):=by
 intro pins s σ H xs us Q I r h
 rcases h with ⟨i,rfl,q⟩ | ⟨k,rfl,q⟩
 ·obtain ⟨u,rfl,t,rfl⟩:=X1 r
  exact call_int_int ⟨.int i,H,I,⟨_,rfl⟩,q⟩
 ·obtain ⟨u,rfl,r1⟩:=X1 r
  cases r1
  exact call_int_bool ⟨.int (if k then 1 else 0),H,I.tok _,⟨_,rfl⟩,q⟩
end
end L2
namespace L2
open PySem PySem.Spec PyProof.Rows
structure ObjM (h:Heap) (x dx C:Addr) (mA:Str->Option Value):Prop where
 obj:h.get? x = some (PySem.W.instObj C dx)
 ns:h.Ns1 dx mA
 ne:dx ≠ x
theorem Pq {h:Heap} {dx:Addr} {mA:Str->Option Value} (n:h.Ns1 dx mA):∃ od,h.get? dx = some od/\∀ name,PySem.W.lookIn name od = some (mA name):=by
 obtain ⟨o,es,ep,ho,hd,hk,_,hm⟩:=n
 refine ⟨o,ho,fun name=>?_⟩
 have e:=hm name
 unfold nsFind findBy at e
 rw [<-Array.find?_toList] at e
 unfold PySem.W.lookIn
 rw [hd]
 dsimp only
 split
 ·rename_i y q
  rw [q] at e
  exact congrArg some e
 ·rename_i q
  rw [q] at e
  have a:es.toList.any (·.refKey) = false:=by
   rw [List.any_eq_false]
   intro y hy
   obtain ⟨z,t,hkey⟩:=hk y (Array.mem_toList_iff.mp hy)
   simp [DictEntry.refKey,hkey]
  have a':¬ es.toList.any (·.refKey) = true:=by rw [a]; exact Bool.false_ne_true
  rw [if_neg a']
  exact congrArg some e
theorem ObjM.look {h:Heap} {x dx C:Addr} {mA:Str->Option Value} (I:ObjM h x dx C mA):∃ od,PySem.W.InstAt h x (PySem.W.instObj C dx) C (some od)/\∀ name,PySem.W.lookIn name od = some (mA name) :=
 let ⟨od,ho,hl⟩:=Pq I.ns
 ⟨od,⟨I.obj,rfl,rfl,ho⟩,hl⟩
section
variable {prog:Program} {w:World} {A:Around} {E:Value->Shared->Prop} {s:Shared} {K:PySem.W.Frag} {x dx C f:Addr} {mA:Str->Option Value} {name:Str} {v:Value}
theorem Wj {expr:Bool} {Q:Value->Shared->Prop} (X:K.In s.heap) (I:ObjM s.heap x dx C mA) (hg:PySem.W.plainGet K C name = true) (hh:PySem.W.hasDictIn K C = true)
  (ha:PySem.W.findIn K (.ref C) name = some none) (hv:mA name = some v) (hv':PySem.W.handedIn v = true) (h:Q v { s with toks:=s.toks + 1 }) :
  wpAny (model prog w) A (getAttr (.ref x) name expr) Q E s:=by
 obtain ⟨od,J,hl⟩:=I.look
 exact PySem.W.get_value X J (PySem.W.plainGet_of hg).1 (PySem.W.findObj_own hh ha rfl (by rw [hl,hv])) hv' h
theorem Sx {pl:Sem Bool} {Q:Value × List Value->Shared->Prop} (X:K.In s.heap) (I:ObjM s.heap x dx C mA) (hg:PySem.W.plainGet K C name = true)
  (hf:PySem.W.findIn K (.ref C) name = some (some (.ref f))) (ht:PySem.W.isFn K (.ref f) = true) (hv:mA name = none) (h:Q (.ref f,[.ref x]) s) :
  wpAny (model prog w) A (getMethod (.ref x) name pl) Q E s:=by
 obtain ⟨od,J,hl⟩:=I.look
 exact PySem.W.method_fn X J (PySem.W.plainGet_of hg).1 (PySem.W.plainGet_of hg).2 hf (beq_iff_eq.mp ht) (by show (PySem.W.lookIn name od).map (·.isSome) = some false; rw [hl,hv]; rfl) h
theorem Ur {ns:List Str} {Q:Unit->Shared->Prop} (X:K.In s.heap) (I:ObjM s.heap x dx C mA)
  (hs:PySem.W.findIn K (.ref C) "__setattr__" = some (some (.builtin "object.__setattr__"))) (hp:PySem.W.plainOver K C = true) (ht:PySem.W.takerIn K C name = some none) (hh:PySem.W.hasDictIn K C = true)
  (hw:PySem.Within mA ns) (hsz:ns.length<=sizeLine)
  (h:∀ h',ObjM h' x dx C (fun y=>if y = name then some v else mA y)->Heap.SameBut dx s.heap h'->Q () { s with heap:=h',toks:=s.toks + 2 }) :
  wpAny (model prog w) A (setAttr (.ref x) name v) Q E s:=by
 obtain ⟨od,J,hl⟩:=I.look
 refine PySem.W.set_plain X J hs (PySem.W.osa_open (s:={ s with toks:=s.toks + 1 }) (r:=none) X J hp ht fun b=>?_)
 obtain ⟨cd,hc,hd'⟩:=PySem.W.any_some hh
 have hx:s.heap.get? x = some ⟨.ref C,some dx,.plain,#[]⟩:=I.obj
 refine wpAny_bind (wpAny_pure (wpAny_bind (wpAny_bind (wpAny_loadPart hx (wpAny_bind (PySem.W.Looks.here (s:={ s with toks:=s.toks + 1 }) (PySem.W.looks_clsIn X hc) ?_))))))
 rw [hd']
 refine wpAny_pure (a:=some dx) (wpAny_bind (wpAny_pure (wpAny_bind ?_)))
 refine wpAny_nsSet1 (s:={ s with toks:=s.toks + 1 }) I.ns fun h' hn2 hs2=>?_
 obtain ⟨oD,esD,epD,hoD,hdD,hcD⟩:=hn2.count (PySem.Within.cons name v hw)
 refine wpAny_bind (wpAny_lookBehind hoD (by rw [hdD]; exact pastItsLine_dict (Nat.le_trans hcD (by rw [List.length_cons]; omega))) ?_)
 exact wpAny_pure (h _ ⟨(hs2.2 _ (Ne.symm I.ne)).trans I.obj,hn2,I.ne⟩ hs2)
theorem Jd {R:Result->Shared->Prop} {vs:List Value} {kw:List (Str × Value)} (X:K.In s.heap) (hm:PySem.W.makesIn K C = true)
  (hi:PySem.W.findIn K (.ref C) "__init__" = some (some (.ref f))) (hf:PySem.W.typeIn K (.ref f) = some (.type "function"))
  (h:codeAny (model prog w) (A.under (.builtin "type.__call__" ⟨.ref C :: vs,kw⟩)) (.call (.ref f) ⟨.ref (s.heap.objs.size + 1) :: vs,kw⟩) (PySem.W.InitBack (s.heap.objs.size + 1) R)
   { s with heap:=(s.heap.push PySem.W.emptyDict).push (PySem.W.instObj C s.heap.objs.size) }) :
  codeAny (model prog w) A (.call (.ref C) ⟨vs,kw⟩) R s:=by
 obtain ⟨hh,g,d,t,os⟩:=s
 exact PySem.W.make_core (PySem.W.makes_of X hm) (PySem.W.looks_findIn X hi) (fun self=>PySem.W.bind_fn X self hf) (.inl rfl) h
end
noncomputable def R0 (f:Str) (v:V):List (Str × V)->List (Str × V)
 | []=>[(f,v)]
 | (g,x) :: r=>if g = f then (g,v) :: r else (g,x) :: R0 f v r
theorem t8 (f g:Str) (v:V):∀ fs:List (Str × V),(R0 f v fs).lookup g = if g = f then some v else fs.lookup g
 | []=>by
  show List.lookup g [(f,v)] = _
  by_cases h:g = f
  ·have hb:(g == f) = true:=beq_iff_eq.mpr h
   simp only [List.lookup,hb,if_pos h]
  ·have hb:(g == f) = false:=beq_eq_false_iff_ne.mpr h
   simp only [List.lookup,hb,if_neg h]
 | (k,x) :: r=>by
  have ih:=t8 f g v r
  rw [show R0 f v ((k,x) :: r) = (if k = f then (k,v) :: r else (k,x) :: R0 f v r) from rfl]
  by_cases hk:k = f
  ·rw [if_pos hk]
   by_cases h:g = k
   ·have hb:(g == k) = true:=beq_iff_eq.mpr h
    simp only [List.lookup,hb,if_pos (h.trans hk)]
   ·have hb:(g == k) = false:=beq_eq_false_iff_ne.mpr h
    simp only [List.lookup,hb,if_neg (fun e:g = f=>h (e.trans hk.symm))]
  ·rw [if_neg hk]
   by_cases h:g = k
   ·have hb:(g == k) = true:=beq_iff_eq.mpr h
    simp only [List.lookup,hb,if_neg (fun e:g = f=>hk (h.symm.trans e))]
   ·have hb:(g == k) = false:=beq_eq_false_iff_ne.mpr h
    simp only [List.lookup,hb]
    exact ih
theorem w9 (f:Str) (v:V):∀ fs:List (Str × V),f ∈ (R0 f v fs).map (·.1)/\∀ g,g ∈ fs.map (·.1)->g ∈ (R0 f v fs).map (·.1)
 | []=>⟨by simp [R0],fun g h=>by simp at h⟩
 | (k,x) :: r=>by
  obtain ⟨i1,i2⟩:=w9 f v r
  rw [show R0 f v ((k,x) :: r) = (if k = f then (k,v) :: r else (k,x) :: R0 f v r) from rfl]
  by_cases hk:k = f
  ·rw [if_pos hk]
   subst hk
   exact ⟨by simp,fun g h=>by simpa using h⟩
  ·rw [if_neg hk]
   refine ⟨?_,fun g h=>?_⟩
   ·rw [List.map_cons]
    exact List.mem_cons_of_mem _ i1
   ·rw [List.map_cons] at h ⊢
    rcases List.mem_cons.mp h with e | e
    ·exact List.mem_cons.mpr (.inl e)
    ·exact List.mem_cons_of_mem _ (i2 g e)
theorem Ap (f:Str) (v:V):∀ fs:List (Str × V),(R0 f v fs).length<=fs.length + 1
 | []=>by simp [R0]
 | (k,x) :: r=>by
  have ih:=Ap f v r
  rw [show R0 f v ((k,x) :: r) = (if k = f then (k,v) :: r else (k,x) :: R0 f v r) from rfl]
  by_cases hk:k = f
  ·rw [if_pos hk,List.length_cons,List.length_cons]; omega
  ·rw [if_neg hk,List.length_cons,List.length_cons]; omega
theorem RelO.some_of {v:V} {o:Option Value} (r:RelO (some v) o):∃ u,o = some u/\RelV v u:=by
 cases o with
 | none=>exact (show False from r).elim
 | some u=>exact ⟨u,rfl,r⟩
theorem RelO.none_of {o:Option Value} (r:RelO none o):o = none:=by
 cases o with
 | none=>rfl
 | some u=>exact (show False from r).elim
theorem Qg {v:V} {u:Value} (r:RelV v u):PySem.W.handedIn u = true:=by
 cases v with
 | non=>cases (show u = Value.none from r); rfl
 | bl b=>cases (show u = Value.bool b from r); rfl
 | int i=>obtain ⟨t,e⟩:=(show ∃ t,u = Value.int i t from r); cases e; rfl
 | str x=>obtain ⟨t,e⟩:=(show ∃ t,u = Value.str x t from r); cases e; rfl
 | byt b=>obtain ⟨t,e⟩:=(show ∃ t,u = Value.bytes b t from r); cases e; rfl
 | flt b=>obtain ⟨t,e⟩:=(show ∃ t,u = Value.float b t from r); cases e; rfl
 | ref a=>cases (show u = Value.ref a from r); rfl
 | ty n=>cases (show u = Value.type n from r); rfl
section
variable {P:Program} {w:World} {H H':Hp} {h h':Heap} {a C dx:Addr} {fs fs':List (Str × V)}
theorem Ec (hok:HOk P w H h) (e:H a = some (.ins C dx fs)):∃ mA,ObjM h a dx C mA/\(∀ f,RelO (fs.lookup f) (mA f))/\PySem.Within mA (fs.map (·.1))/\fs.length<=1000/\H dx = some (.own a):=by
 obtain ⟨d,z,ne,ob,mA,n,r,q⟩:=(show ObjOk P w H h a (.ins C dx fs) from hok a _ e)
 exact ⟨mA,⟨ob,n,ne⟩,r,q,z,d⟩
end
structure Cls (K:PySem.W.Frag) (C:Addr):Prop where
 pg:PySem.W.plainGet K C Str.empty = true
 hd:PySem.W.hasDictIn K C = true
 po:PySem.W.plainOver K C = true
 sa:PySem.W.findIn K (.ref C) "__setattr__" = some (some (.builtin "object.__setattr__"))
theorem Cls.get {K:PySem.W.Frag} {C:Addr} (c:Cls K C) (f:Str):PySem.W.plainGet K C f = true:=c.pg
noncomputable def NoAttr (K:PySem.W.Frag) (C:Addr) (f:Str):Prop:=PySem.W.findIn K (.ref C) f = some none
theorem NoAttr.taker {K:PySem.W.Frag} {C:Addr} {f:Str} (n:NoAttr K C f):PySem.W.takerIn K C f = some none:=by
 unfold PySem.W.takerIn
 rw [show PySem.W.findIn K (.ref C) f = some none from n]
 rfl
structure Meth (K:PySem.W.Frag) (C:Addr) (m:Str) (f:Addr):Prop where
 at_:PySem.W.findIn K (.ref C) m = some (some (.ref f))
 fn:PySem.W.isFn K (.ref f) = true
 kp:PySem.W.keepIn K (.ref f) = true
section
variable {X:Cx} {pins:List (Addr × Obj)} {σ:St} {H:Hp} {s:Shared} {a C dx:Addr} {fs:List (Str × V)} {f:Str} {v:V} {A:Around} {E:Value->Shared->Prop}
theorem Kv {b:Bool} {Q:Value->Shared->Prop} (I:Inv X pins σ H s) (e:H a = some (.ins C dx fs)) (c:Cls X.K C) (n:NoAttr X.K C f) (l:fs.lookup f = some v)
  (h:∀ u s',Inv X pins σ H s'->RelV v u->Q u s'):wpAny (model X.prog X.w) A (getAttr (.ref a) f b) Q E s:=by
 obtain ⟨mA,O,r,_,_,_⟩:=Ec I.hok e
 obtain ⟨u,hu,ru⟩:=RelO.some_of (v:=v) (o:=mA f) (by rw [<-l]; exact r f)
 exact Wj I.kIn O (c.get f) c.hd n hu (Qg ru) (h u _ (I.tok _) ru)
theorem Cc {m:Str} {g:Addr} {pl:Sem Bool} {Q:Value × List Value->Shared->Prop} (I:Inv X pins σ H s) (e:H a = some (.ins C dx fs)) (c:Cls X.K C) (k:Meth X.K C m g) (l:fs.lookup m = none)
  (h:Q (.ref g,[.ref a]) s):wpAny (model X.prog X.w) A (getMethod (.ref a) m pl) Q E s:=by
 obtain ⟨mA,O,r,_,_,_⟩:=Ec I.hok e
 have hn:mA m = none:=RelO.none_of (by rw [<-l]; exact r m)
 exact Sx I.kIn O (c.get m) k.at_ k.fn hn h
theorem Kq {y:V} {u:Value} {Q:Unit->Shared->Prop} (I:Inv X pins σ H s) (e:H a = some (.ins C dx fs)) (c:Cls X.K C) (n:NoAttr X.K C f) (hl:fs.length < 1000) (ry:RelV y u)
  (h:∀ s',Inv X pins σ (upd H a (.ins C dx (R0 f y fs))) s'->Q () s'):wpAny (model X.prog X.w) A (setAttr (.ref a) f u) Q E s:=by
 obtain ⟨mA,O,r,wi,_,ho⟩:=Ec I.hok e
 have hz:(fs.map (·.1)).length<=sizeLine:=by rw [List.length_map,sizeLine_eq]; omega
 refine Ur I.kIn O c.sa c.po n.taker c.hd wi hz fun h' O' sb=>h _ ?_
 have hd:∃ o,h'.get? dx = some o:=let ⟨o,_,_,e',_⟩:=O'.ns; ⟨o,e'⟩
 refine I.write (x:=a) (e:=dx) (by rw [e]; exact True.intro) (.inr ho) (fun b q hb z=>(sb.2 b hb).trans z) hd ?_
 refine ⟨by rw [B2 O.ne]; exact ho,?_,O.ne,O'.obj,_,O'.ns,fun g=>?_,fun g hg=>?_⟩
 ·have:=Ap f y fs; omega
 ·show RelO ((R0 f y fs).lookup g) (if g = f then some u else mA g)
  rw [t8]
  by_cases q:g = f
  ·rw [if_pos q,if_pos q]; exact ry
  ·rw [if_neg q,if_neg q]; exact r g
 ·by_cases q:g = f
  ·rw [q]; exact (w9 f y fs).1
  ·refine (w9 f y fs).2 g (wi g fun z=>hg ?_)
   show (if g = f then some u else mA g) = none
   rw [if_neg q]; exact z
theorem Inv.made (I:Inv X pins σ H s):Inv X pins σ (upd (upd H s.heap.objs.size (.own (s.heap.objs.size + 1))) (s.heap.objs.size + 1) (.ins C s.heap.objs.size []))
  { s with heap:=(s.heap.push PySem.W.emptyDict).push (PySem.W.instObj C s.heap.objs.size) }:=by
 have e1:(s.heap.push PySem.W.emptyDict).get? s.heap.objs.size = some PySem.W.emptyDict:=Heap.get?_push_size s.heap rfl
 have e2:((s.heap.push PySem.W.emptyDict).push (PySem.W.instObj C s.heap.objs.size)).get? (s.heap.objs.size + 1) = some (PySem.W.instObj C s.heap.objs.size):=by
  have:=Heap.get?_push_size (s.heap.push PySem.W.emptyDict) (o:=PySem.W.instObj C s.heap.objs.size) rfl
  rwa [Heap.size_push] at this
 have e3:(s.heap.push PySem.W.emptyDict).Ns s.heap.objs.size (fun _=>none):=⟨PySem.W.emptyDict,#[],_,e1,rfl,(fun e he=>absurd he (by simp)),fun _=>rfl⟩
 have I1:=I.laid (a:=s.heap.objs.size) (o:=.own (s.heap.objs.size + 1)) (h':=s.heap.push PySem.W.emptyDict) (t':=s.toks) (fun b u q=>Heap.get?_push_of_some _ q) (Nat.le_refl _) ⟨_,e1⟩
 refine I1.laid (a:=s.heap.objs.size + 1) (o:=.ins C s.heap.objs.size []) (t':=s.toks) (fun b u q=>Heap.get?_push_of_some _ q) (Nat.le_of_eq (Heap.size_push _ _)) ?_
 have ne:s.heap.objs.size ≠ s.heap.objs.size + 1:=Nat.ne_of_lt (Nat.lt_succ_self _)
 refine ⟨by rw [B2 ne,A7],Nat.zero_le _,ne,e2,fun _=>none,(Heap.Ns1.of_empty e3).at fun o q=>Heap.get?_push_of_some _ q,fun _=>True.intro,fun y hy=>absurd rfl hy⟩
theorem Vf {prog:Program} {w:World} {env:Env} {e:Expr} {f:Str} {pos:Pos} {s:Shared} {Q:Value->Shared->Prop} (hb:attributeBase e f env (eval e env) = eval e env)
  (h:wpAny (model prog w) A (eval e env) (fun o s₁=>wpAny (model prog w) A (getAttr o f true) Q E s₁) E s):wpAny (model prog w) A (eval (.Attribute e f pos) env) Q E s :=
 Attribute_any_ h (by rw [arm_eval_Attribute,hb])
end
noncomputable def zCa (K:PySem.W.Frag) (ta:TE) (f:Str):TE:=fun σ H Q=>ta σ H fun x H1=>∃ a C dx fs v,x = .ref a/\H1 a = some (.ins C dx fs)/\Cls K C/\NoAttr K C f/\fs.lookup f = some v/\Q v H1
noncomputable def zBz (K:PySem.W.Frag) (ta tv:TE) (f:Str):TS:=fun D σ H=>tv σ H fun y H1=>ta σ H1 fun x H2=>∃ a C dx fs,x = .ref a/\H2 a = some (.ins C dx fs)/\Cls K C/\NoAttr K C f/\fs.length < 1000 /\
 D.nx σ (upd H2 a (.ins C dx (R0 f y fs)))
section
variable {X:Cx} {o e value:Expr} {f:Str} {pos pos' tpos:Pos} {ta tv:TE}
theorem Za (he:PE X e ta) (hb:attributeBase e f X.env (eval e X.env) = eval e X.env):PE X (.Attribute e f pos) (zCa X.K ta f):=by
 intro pins s σ H Q I h
 refine Vf hb (thn (he pins s σ H _ I h) fun u s1 ⟨x,H1,I1,rx,a,C,dx,fs,v,ex,ea,c,n,l,q⟩=>?_)
 subst ex
 obtain rfl:u = Value.ref a:=rx
 exact Kv I1 ea c n l fun u' s2 I2 ru=>⟨v,H1,I2,ru,q⟩
theorem Xi (ha:PE X o ta) (hv:PE X value tv) (hs:swapsWith value (some (.Attribute o f pos')) pos.line X.env = pure false):PS X (.Assign [.Attribute o f pos'] value pos) (zBz X.K ta tv f):=by
 intro pins s σ H D I h
 refine plainObj_wpAny_Assign_Attribute (thn (hv pins s σ H _ I h) fun u s1 ⟨y,H1,I1,ry,q⟩=>thn (ha pins s1 σ H1 _ I1 q) fun ov s2 ⟨x,H2,I2,rx,a,C,dx,fs,ex,ea,c,n,l,q2⟩=>?_) hs
 subst ex
 obtain rfl:ov = Value.ref a:=rx
 exact Kq I2 ea c n l ry fun s3 I3=>⟨σ,_,I3,q2⟩
end
section
variable {X:Cx} {pins:List (Addr × Obj)} {σ:St} {H:Hp} {s:Shared} {A:Around} {E:Value->Shared->Prop} {Q:Value->Shared->Prop} {c:Value} {b:Bool}
inductive TyOf (K:PySem.W.Frag) (H:Hp):V->Value->Prop where
 | non:TyOf K H .non (.type "NoneType")
 | bl (x:Bool):TyOf K H (.bl x) (.type "bool")
 | int (i:Int):TyOf K H (.int i) (.type "int")
 | str (x:Str):TyOf K H (.str x) (.type "str")
 | flt (x:UInt64):TyOf K H (.flt x) (.type "float")
 | lst {a:Addr} {xs:List V} (e:H a = some (.lst xs)):TyOf K H (.ref a) (.type "list")
 | frz {a:Addr} {o:Obj} {xs:List V} (e:H a = some (.frz o (.lst xs))):TyOf K H (.ref a) (.type "list")
 | tup {a:Addr} {xs:List V} (e:H a = some (.tup xs)):TyOf K H (.ref a) (.type "tuple")
 | dK {a:Addr} {kvs:List (Key × V)} (e:H a = some (.dK kvs)):TyOf K H (.ref a) (.type "dict")
 | dT {a:Addr} {kvs:List (List Key × V)} (e:H a = some (.dT kvs)):TyOf K H (.ref a) (.type "dict")
 | ins {a C dx:Addr} {fs:List (Str × V)} (e:H a = some (.ins C dx fs)) (cl:Cls K C) (ha:PySem.W.findIn K (.ref C) "__class__" = some (some (.builtin "object.__class__")))
   (hn:PySem.W.specialIn K (.builtin "object.__class__") "__get__" = some (some (.builtin "getset_descriptor.__get__"))) (htk:PySem.W.takesIn K (.builtin "object.__class__") = some true)
   (hm:PySem.W.mroIn K C (.type "object") = some true):TyOf K H (.ref a) (.ref C)
theorem Oh {x:V} {u t:Value} (I:Inv X pins σ H s) (rx:RelV x u) (ty:TyOf X.K H x t) (e:PySem.W.kitOne X.K t c = some b) (h:∀ tk,Q (.bool b) { s with toks:=tk }) :
  wpAny (model X.prog X.w) A (call (.builtin "isinstance") [u,c]) Q E s:=by
 cases ty with
 | non=>cases (show u = Value.none from rx); exact PySem.W.kia_one PySem.W.kitx_none I.kIn True.intro e (fun z=>nomatch z) h
 | bl y=>cases (show u = Value.bool y from rx); exact PySem.W.kia_one PySem.W.kitx_bool I.kIn True.intro e (fun z=>nomatch z) h
 | int i=>obtain ⟨t,q⟩:=(show ∃ t,u = Value.int i t from rx); cases q; exact PySem.W.kia_one PySem.W.kitx_int I.kIn True.intro e (fun z=>nomatch z) h
 | str y=>obtain ⟨t,q⟩:=(show ∃ t,u = Value.str y t from rx); cases q; exact PySem.W.kia_one PySem.W.kitx_str I.kIn True.intro e (fun z=>nomatch z) h
 | flt y=>obtain ⟨t,q⟩:=(show ∃ t,u = Value.float y t from rx); cases q; exact PySem.W.kia_one PySem.W.kitx_float I.kIn True.intro e (fun z=>nomatch z) h
 | @lst a xs ea =>
  cases (show u = Value.ref a from rx)
  obtain ⟨_,_,n,_,h1⟩:=(show ObjOk X.prog X.w H s.heap a (.lst xs) from I.hok a _ ea)
  exact PySem.W.kia_one PySem.W.kitx_list I.kIn ⟨_,h1,rfl⟩ e (fun z=>nomatch z) h
 | @frz a ob xs ea =>
  cases (show u = Value.ref a from rx)
  obtain ⟨_,_,_,n,_,h1⟩:=(show ObjOk X.prog X.w H s.heap a (.frz ob (.lst xs)) from I.hok a _ ea)
  exact PySem.W.kia_one PySem.W.kitx_list I.kIn ⟨_,h1,rfl⟩ e (fun z=>nomatch z) h
 | @tup a xs ea =>
  cases (show u = Value.ref a from rx)
  obtain ⟨_,_,_,p⟩:=(show ObjOk X.prog X.w H s.heap a (.tup xs) from I.hok a _ ea)
  obtain ⟨o,h1,h2,_⟩:=p
  exact PySem.W.kia_one PySem.W.kitx_tuple I.kIn ⟨o,h1,h2⟩ e (fun z=>nomatch z) h
 | @dK a kvs ea =>
  cases (show u = Value.ref a from rx)
  obtain ⟨_,_,vs,_,p⟩:=(show ObjOk X.prog X.w H s.heap a (.dK kvs) from I.hok a _ ea)
  obtain ⟨o,es,ep,h1,h2,_⟩:=p
  exact PySem.W.kia_one PySem.W.kitx_dict I.kIn ⟨o,h1,h2.1⟩ e (fun z=>nomatch z) h
 | @dT a kvs ea =>
  cases (show u = Value.ref a from rx)
  obtain ⟨_,_,xs,_,o,es,ep,h1,h2,_⟩:=(show ObjOk X.prog X.w H s.heap a (.dT kvs) from I.hok a _ ea)
  exact PySem.W.kia_one PySem.W.kitx_dict I.kIn ⟨o,h1,h2.1⟩ e (fun z=>nomatch z) h
 | @ins a C dx fs ea cl ha hn htk hm =>
  cases (show u = Value.ref a from rx)
  obtain ⟨mA,O,_⟩:=Ec I.hok ea
  obtain ⟨od,J,_⟩:=O.look
  exact PySem.W.kia_one (PySem.W.kitx_own (cl.get _) cl.hd ha hn htk hm) I.kIn J e (fun z=>nomatch z) h
end
end L2
namespace L2
open PySem PySem.Spec PyProof.Rows
structure Room (k:Nat) (A:Around):Prop where
 hd:A.handled = none
 dp:A.depth + 3 * k + 5 < recursionLimit
 un:A.units + 16 * k + 200 < cLine
theorem Room.mono {j k:Nat} {A:Around} (r:Room k A) (h:j<=k):Room j A:=⟨r.hd,by have:=r.dp; omega,by have:=r.un; omega⟩
theorem Room.deeper {k:Nat} {A:Around} (r:Room (k + 1) A) (env:Env):Room k (A.deeper env) :=
 ⟨r.hd,by have:=r.dp; show A.depth + 1 + 3 * k + 5 < _; omega,by have:=r.un; show A.units + 3 + 16 * k + 200 < _; omega⟩
theorem Lq {A:Around} {C:Addr} {us:List Value} {kw:List (Str × Value)}:(A.under (.builtin "type.__call__" ⟨.ref C :: us,kw⟩)).depth = A.depth + 1:=by
 first | rfl | simp [Around.under,Code.weight,Code.isCreation,Code.isGuard,Code.isCaller,Code.frames,Code.isFrame,guardIds]
theorem Lg {A:Around} {C:Addr} {us:List Value} {kw:List (Str × Value)}:(A.under (.builtin "type.__call__" ⟨.ref C :: us,kw⟩)).units = A.units + 1:=by
 first | rfl | simp [Around.under,Code.cUnits,Code.frames,Code.isFrame]
theorem Room.make {k:Nat} {A:Around} (r:Room (k + 1) A) (C:Addr) (us:List Value) (kw:List (Str × Value)):Room k (A.under (.builtin "type.__call__" ⟨.ref C :: us,kw⟩)) :=
 ⟨r.hd,by have:=r.dp; rw [Lq]; omega,by have:=r.un; rw [Lg]; omega⟩
theorem Room.depth {k:Nat} {A:Around} (r:Room k A):A.depth < recursionLimit:=by have:=r.dp; omega
theorem Room.units {k:Nat} {A:Around} (r:Room k A):A.units + 64 < cLine:=by have:=r.un; omega
noncomputable def Tv:TA:=fun _ H Q=>Q [] H
noncomputable def Ml (ta:TE) (tr:TA):TA:=fun σ H Q=>ta σ H fun x H1=>tr σ H1 fun xs H2=>Q (x :: xs) H2
section
variable {X:Cx} {e:Expr} {es:List Expr} {te:TE} {t:TA} {pos:Pos}
theorem A9:PA X [] Tv:=fun _ _ _ _ H Q I h=>Calls.spliced_nil ⟨[],H,I,.nil,h⟩
theorem A6 (ha:PE X e te) (hr:PA X es t) (hs:starEach (e :: es) X.env = (false,eval e X.env) :: starEach es X.env:=by rfl):PA X (e :: es) (Ml te t):=by
 intro pos pins s σ H Q I h
 rw [hs]
 show wpAny _ _ (spliced ((false,eval e X.env) :: backTo pos (starEach es X.env))) _ _ s
 refine Calls.spliced_cons (thn (ha pins s σ H _ I h) fun u s1 ⟨x,H1,I1,r1,q1⟩=>?_)
 exact thn (hr pos pins s1 σ H1 _ I1 q1) fun us s2 ⟨xs,H2,I2,r2,q2⟩=>⟨x :: xs,H2,I2,.cons r1 r2,q2⟩
noncomputable def zCm (t:TA):TE:=fun σ H Q=>t σ H fun xs H1=>xs.length<=sizeLine/\∀ p,H1 p = none->Q (.ref p) (upd H1 p (.tup xs))
noncomputable def zCd (t:TA):TE:=fun σ H Q=>t σ H fun xs H1=>xs.length<=sizeLine/\∀ p,H1 p = none->Q (.ref p) (upd H1 p (.lst xs))
theorem T0 {x1} (h:PA X es t):PE X (.Tuple es x1 pos) (zCm t):=by
 intro pins s σ H Q I hq
 refine wpAny_Tuple_spliced (thn (h pos pins s σ H _ I hq) fun us s1 ⟨xs,H1,I1,r,z,q⟩=>⟨by rw [<-r.length]; exact z,?_⟩)
 have hf:H1 s1.heap.objs.size = none:=I1.hok.fresh (Nat.le_refl _)
 refine ⟨.ref s1.heap.objs.size,upd H1 s1.heap.objs.size (.tup xs),I1.laid (t':=s1.toks) (fun b u e=>Heap.get?_push_of_some _ e) (Nat.le_refl _) ?_,rfl,q _ hf⟩
 exact ⟨z,us,r,⟨_,Heap.get?_push_size _ rfl,rfl,_,rfl⟩⟩
theorem G8 (h:PA X es t):PE X (.List es pos) (zCd t):=by
 intro pins s σ H Q I hq
 refine wpAny_List_spliced (thn (h pos pins s σ H _ I hq) fun us s1 ⟨xs,H1,I1,r,z,q⟩=>⟨by rw [<-r.length]; exact z,?_⟩)
 have hf:H1 s1.heap.objs.size = none:=I1.hok.fresh (Nat.le_refl _)
 refine ⟨.ref s1.heap.objs.size,upd H1 s1.heap.objs.size (.lst xs),I1.laid (t':=s1.toks) (fun b u e=>Heap.get?_push_of_some _ e) (Nat.le_refl _) ?_,rfl,q _ hf⟩
 exact ⟨z,us,0,r,Heap.get?_push_size _ rfl⟩
end
noncomputable abbrev Sp:=List V->Hp->VK->XK->Prop
noncomputable abbrev CXT:=List Env->Hp->Shared->XK->Value->Shared->Prop
structure Env0 (P:Program) (w:World) (K:PySem.W.Frag) (mg:Str->Option Value) (base:Heap) (A:Around) (outer:List Env) (s:Shared) (H:Hp):Prop where
 frames:A.frames = some outer
 mod:Mod K mg base
 bs:∀ b o,base.get? b = some o->s.heap.get? b = some o/\H b = none
 bsz:base.objs.size<=s.heap.objs.size
 funs:s.heap.FunFrames base outer
 frf:∀ b ∈ frs outer,H b = none
 hok:HOk P w H s.heap
 bare:AllBare s.gens
noncomputable def CE (outer:List Env) (P:Program) (w:World) (H:Hp) (s:Shared) (Q:VK) (u:Value) (s':Shared):Prop :=
 ∃ v H',s'.os = s.os/\AllBare s'.gens/\Un (frs outer) [] H H' s.heap s'.heap/\HOk P w H' s'.heap/\RelV v u/\Q v H'
noncomputable def CR (CX:CXT) (outer:List Env) (P:Program) (w:World) (H:Hp) (s:Shared) (Q:VK) (E:XK) (r:Result) (s':Shared):Prop :=
 match r with
 | .ok (.ret u)=>CE outer P w H s Q u s'
 | .ok _=>False
 | .error e=>CX outer H s E e s'
structure FnOk (P:Program) (w:World) (K:PySem.W.Frag) (mg:Str->Option Value) (base:Heap) (CX:CXT) (k:Nat) (f:Addr) (fd:FuncData) (ps:List Str) (sp:Sp):Prop where
 len:∀ vs H Q E,sp vs H Q E->vs.length = ps.length
 run:∀ (A:Around) (outer:List Env) (s:Shared) (H:Hp) (args:Args) (us:List Value) (vs:List V) (Q:VK) (E:XK),Room k A->Env0 P w K mg base A outer s H->BindsTo s fd args (ps.zip us)->Vals vs us->sp vs H Q E ->
  codeAny (model P w) A (.call (.ref f) args) (CR CX outer P w H s Q E) s
theorem Env0.make {P:Program} {w:World} {K:PySem.W.Frag} {mg:Str->Option Value} {base:Heap} {A:Around} {outer:List Env} {s:Shared} {H:Hp} (e:Env0 P w K mg base A outer s H) (C:Addr) (us:List Value) (kw:List (Str × Value)) :
  Env0 P w K mg base (A.under (.builtin "type.__call__" ⟨.ref C :: us,kw⟩)) outer s H:=⟨by first | exact e.frames | (simpa [Around.under,Code.envs,Code.isFrame,pushEnvs] using e.frames),e.mod,e.bs,e.bsz,e.funs,e.frf,e.hok,e.bare⟩
section
variable {X:Cx} {pins:List (Addr × Obj)} {σ:St} {H:Hp} {s s':Shared}
theorem Inv.env0 (I:Inv X pins σ H s):Env0 X.prog X.w X.K X.mg X.base X.A X.stack s H :=
 ⟨I.ok.frames,I.ok.mod,I.bs,Nat.le_trans I.ok.bsz I.sz,I.stack,I.stkFree,I.hok,I.bare⟩
theorem Inv.after {Q:VK} {u:Value} (I:Inv X pins σ H s) (h:CE X.stack X.prog X.w H s Q u s'):EP X pins σ Q u s':=by
 obtain ⟨v,H',os,bare,un,hok,r,q⟩:=h
 obtain ⟨hh,g,d,t,os'⟩:=s'
 obtain rfl:os' = s.os:=os
 exact ⟨v,H',I.call (h':=hh) (g':=g) (d':=d) (t':=t) (ch:=[]) un hok bare (fun b z=>absurd z (by simp)),r,q⟩
end
noncomputable def Xg (sp:Sp) (dvs:List V) (E:XK) (t:TA):TE:=fun σ H Q=>t σ H fun vs H1=>sp (vs ++ dvs) H1 Q E
noncomputable def Yc (C:Addr) (m:Str) (sp:Sp) (dvs:List V) (E:XK) (ta:TE) (t:TA):TE:=fun σ H Q=>ta σ H fun x H1=>∃ a dx fs,x = .ref a/\H1 a = some (.ins C dx fs)/\fs.lookup m = none /\
 t σ H1 fun vs H2=>sp (x :: (vs ++ dvs)) H2 Q E
noncomputable def Wu (C:Addr) (sp:Sp) (dvs:List V) (E:XK) (t:TA):TE:=fun σ H Q=>t σ H fun vs H1=>∀ x dx,H1 x = none->H1 dx = none->dx ≠ x ->
 sp (.ref x :: (vs ++ dvs)) (upd (upd H1 dx (.own x)) x (.ins C dx [])) (fun v H2=>v = .non/\Q (.ref x) H2) E
noncomputable def Binds (K:PySem.W.Frag) (fd:FuncData) (ps:List Str) (ds:List Value):Prop :=
 ∀ (s:Shared) (us:List Value),K.In s.heap->(us ++ ds).length = ps.length->BindsTo s fd ⟨us,[]⟩ (ps.zip (us ++ ds))
theorem Binds.all {K:PySem.W.Frag} {fd:FuncData} {ps:List Str} (h:∀ us:List Value,us.length = ps.length->bindArgs fd ⟨us,[]⟩ = pure (ps.zip us)):Binds K fd ps []:=fun s us _ hl=>by
 rw [List.append_nil] at hl ⊢
 exact .of_eq (h us hl)
noncomputable def j8 (CX:CXT) (X:Cx) (E:XK):Prop:=∀ (pins:List (Addr × Obj)) (σ:St) (H:Hp) (s:Shared) (e:Value) (s':Shared),Inv X pins σ H s->CX X.stack H s E e s'->X.xe e s'
section
variable {X:Cx} {CX:CXT} {k:Nat} {f C:Addr} {fd:FuncData} {ps:List Str} {sp:Sp} {dvs:List V} {ds:List Value} {E:XK} {x m:Str} {p pos apos:Pos} {e o:Expr} {es:List Expr} {ta:TE} {t:TA}
theorem Oz {pins:List (Addr × Obj)} {σ:St} {H:Hp} {s:Shared} {Q:VK} {us:List Value} {vs:List V} (F:FnOk X.prog X.w X.K X.mg X.base CX k f fd ps sp) (hr:Room k X.A) (hb:Binds X.K fd ps ds) (hd:Vals dvs ds) (hx:j8 CX X E)
  (I:Inv X pins σ H s) (r:Vals vs us) (h:sp (vs ++ dvs) H Q E):wpAny (model X.prog X.w) X.A (call (.ref f) us) (EP X pins σ Q) X.xe s:=by
 have r2:Vals (vs ++ dvs) (us ++ ds):=r.append hd
 have hl:(us ++ ds).length = ps.length:=by rw [<-r2.length]; exact F.len _ _ _ _ h
 refine wpAny_call (codeAny_mono (F.run X.A X.stack s H ⟨us,[]⟩ (us ++ ds) (vs ++ dvs) Q E hr I.env0 (hb s us I.kIn hl) r2 h) fun r s' hq=>?_)
 cases r with
 | error e=>exact hx pins σ H s e s' I hq
 | ok fl =>
  cases fl with
  | ret u=>exact I.after hq
  | next=>exact False.elim hq
  | brk=>exact False.elim hq
  | cont=>exact False.elim hq
theorem Vs (F:FnOk X.prog X.w X.K X.mg X.base CX k f fd ps sp) (hr:Room k X.A) (hg:Gl X x) (hm:X.mg x = some (.ref f)) (hk:PySem.W.keepIn X.K (.ref f) = true) (hb:Binds X.K fd ps ds) (hd:Vals dvs ds) (hx:j8 CX X E)
  (ha:PA X (e :: es) t) (hdb:(x == ("__debug__":Str)) = false:=by decide) (he:starEach (e :: es) X.env = (false,eval e X.env) :: starEach es X.env:=by rfl) (hpl:(backTo pos (starEach es X.env)).any (·.1) = false:=by rfl) :
  PE X (.Call (.Name x p) (e :: es) [] pos) (Xg sp dvs E t):=by
 intro pins s σ H Q I h
 refine wpAny_Call_Name_kw (a7 I hg hm ?_ hdb)
 refine PySem.W.callWith_K (h₀:=X.base) I.ok.mod.kin hk (thn (ha pos pins s σ H _ I h) fun us s1 ⟨vs,H1,I1,r,q⟩=>⟨I1.kIn,?_⟩) he hpl
 exact Oz F hr hb hd hx I1 r q
theorem P0 {pl:Sem Bool} (he:PE X o ta) (c:Cls X.K C) (hm:Meth X.K C m f) (F:FnOk X.prog X.w X.K X.mg X.base CX k f fd ps sp) (hr:Room k X.A) (hb:Binds X.K fd ps ds) (hd:Vals dvs ds) (hx:j8 CX X E) (ha:PA X (e :: es) t)
  (hst:starEach (e :: es) X.env = (false,eval e X.env) :: starEach es X.env:=by rfl) (hpl:(backTo pos (starEach es X.env)).any (·.1) = false:=by rfl)
  (ht:eval (.Call (.Attribute o m apos) (e :: es) [] pos) X.env = (do
   let ov <-eval o X.env
   standAt apos.atName
   let (f,first) <-holding [ov] (getMethod ov m pl)
   callWith pos f first (backTo pos (starEach (e :: es) X.env)) (backToKw pos (keywordEach [] X.env))):=by rfl) :
  PE X (.Call (.Attribute o m apos) (e :: es) [] pos) (Yc C m sp dvs E ta t):=by
 intro pins s σ H Q I h
 refine PySem.W.methodCall_KW (pl:=pl) (thn (he pins s σ H _ I h) fun u s1 ⟨x,H1,I1,rx,a,dx,fs,ex,ea,l,q⟩=>?_) ht
 subst ex
 obtain rfl:u = Value.ref a:=rx
 refine Cc I1 ea c hm l ?_
 refine PySem.W.callWith_K (first:=[.ref a]) (h₀:=X.base) I.ok.mod.kin hm.kp (thn (ha pos pins s1 σ H1 _ I1 q) fun us s2 ⟨vs,H2,I2,r,q2⟩=>⟨I2.kIn,?_⟩) hst hpl
 exact Oz (us:=.ref a :: us) (vs:=.ref a :: vs) F hr hb hd hx I2 (.cons rfl r) q2
theorem C6 {pl:Sem Bool} (he:PE X o ta) (c:Cls X.K C) (hm:Meth X.K C m f) (F:FnOk X.prog X.w X.K X.mg X.base CX k f fd ps sp) (hr:Room k X.A) (hb:Binds X.K fd ps ds) (hd:Vals dvs ds) (hx:j8 CX X E)
  (ht:eval (.Call (.Attribute o m apos) [] [] pos) X.env = (do
   let ov <-eval o X.env
   standAt apos.atName
   let (f,first) <-holding [ov] (getMethod ov m pl)
   callWith pos f first (backTo pos (starEach [] X.env)) (backToKw pos (keywordEach [] X.env))):=by rfl) :
  PE X (.Call (.Attribute o m apos) [] [] pos) (Yc C m sp dvs E ta Tv):=by
 intro pins s σ H Q I h
 refine PySem.W.methodCall_KW (pl:=pl) (thn (he pins s σ H _ I h) fun u s1 ⟨x,H1,I1,rx,a,dx,fs,ex,ea,l,q⟩=>?_) ht
 subst ex
 obtain rfl:u = Value.ref a:=rx
 refine Cc I1 ea c hm l ?_
 exact PySem.W.callWith_K0 (first:=[.ref a]) I1.kIn hm.kp (Oz (us:=[.ref a]) (vs:=[.ref a]) F hr hb hd hx I1 (.cons rfl .nil) q)
structure Mk (K:PySem.W.Frag) (C f:Addr):Prop where
 makes:PySem.W.makesIn K C = true
 init:PySem.W.findIn K (.ref C) "__init__" = some (some (.ref f))
 fn:PySem.W.isFn K (.ref f) = true
 kp:PySem.W.keepIn K (.ref C) = true
theorem Si {pins:List (Addr × Obj)} {σ:St} {H:Hp} {s:Shared} {Q:VK} {us:List Value} {vs:List V} (M:Mk X.K C f) (F:FnOk X.prog X.w X.K X.mg X.base CX k f fd ps sp) (hr:Room (k + 1) X.A) (hb:Binds X.K fd ps ds) (hd:Vals dvs ds)
  (hx:j8 CX X E) (I:Inv X pins σ H s) (r:Vals vs us)
  (h:∀ x dx,H x = none->H dx = none->dx ≠ x->sp (.ref x :: (vs ++ dvs)) (upd (upd H dx (.own x)) x (.ins C dx [])) (fun v H2=>v = .non/\Q (.ref x) H2) E) :
  wpAny (model X.prog X.w) X.A (call (.ref C) us) (EP X pins σ Q) X.xe s:=by
 have hq:=h (s.heap.objs.size + 1) s.heap.objs.size (I.hok.fresh (Nat.le_succ _)) (I.hok.fresh (Nat.le_refl _)) (Nat.ne_of_lt (Nat.lt_succ_self _))
 have I2:=Inv.made (C:=C) I
 have r2:Vals (V.ref (s.heap.objs.size + 1) :: (vs ++ dvs)) (Value.ref (s.heap.objs.size + 1) :: (us ++ ds)):=.cons rfl (r.append hd)
 have hl:(Value.ref (s.heap.objs.size + 1) :: us ++ ds).length = ps.length:=by
  have e:=r2.length
  rw [F.len _ _ _ _ hq] at e
  exact e.symm
 refine wpAny_call (Jd (f:=f) I.kIn M.makes M.init (beq_iff_eq.mp M.fn) (codeAny_mono (F.run _ X.stack _ _ ⟨Value.ref (s.heap.objs.size + 1) :: us,[]⟩ (Value.ref (s.heap.objs.size + 1) :: (us ++ ds)) _ _ E (hr.make C us [])
  (I2.env0.make C us []) (hb _ (Value.ref (s.heap.objs.size + 1) :: us) I2.kIn hl) r2 hq) fun r s' hq'=>?_))
 cases r with
 | error e=>exact hx pins σ _ _ e s' I2 hq'
 | ok fl =>
  cases fl with
  | ret u =>
   obtain ⟨v,H',I3,rv,ev,q3⟩:=I2.after hq'
   subst ev
   exact ⟨rv,⟨V.ref (s.heap.objs.size + 1),H',I3,rfl,q3⟩⟩
  | next=>exact False.elim hq'
  | brk=>exact False.elim hq'
  | cont=>exact False.elim hq'
theorem Cw (M:Mk X.K C f) (F:FnOk X.prog X.w X.K X.mg X.base CX k f fd ps sp) (hr:Room (k + 1) X.A) (hg:Gl X x) (hm:X.mg x = some (.ref C)) (hb:Binds X.K fd ps ds) (hd:Vals dvs ds) (hx:j8 CX X E)
  (ha:PA X (e :: es) t) (hdb:(x == ("__debug__":Str)) = false:=by decide) (he:starEach (e :: es) X.env = (false,eval e X.env) :: starEach es X.env:=by rfl) (hpl:(backTo pos (starEach es X.env)).any (·.1) = false:=by rfl) :
  PE X (.Call (.Name x p) (e :: es) [] pos) (Wu C sp dvs E t):=by
 intro pins s σ H Q I h
 refine wpAny_Call_Name_kw (a7 I hg hm ?_ hdb)
 refine PySem.W.callWith_K (h₀:=X.base) I.ok.mod.kin M.kp (thn (ha pos pins s σ H _ I h) fun us s1 ⟨vs,H1,I1,r,q⟩=>⟨I1.kIn,?_⟩) he hpl
 exact Si M F hr hb hd hx I1 r q
end
structure FnScope (N P:List Str) (sc:Scope):Prop where
 kind:sc.kind = .function
 co:sc.isCoroutine = false
 gen:sc.isGenerator = false
 nd:N.Nodup
 pre:N.take P.length = P
 par:∀ x ∈ P,sc.names.lookup x = some .local\/sc.names.lookup x = some .cell
 nofree:∀ y ∈ sc.names,y.2 ≠ .free
theorem Fs {kindOf:Str->Option NameKind} {x:Str}:∀ {binds:List (Str × Value)} {m:Str->Option Value},(∀ v,(x,v) ∉ binds)->bindL kindOf binds m x = m x
 | [],_,_=>rfl
 | (n,v) :: r,m,h=>by
  unfold bindL
  rw [Fs fun w hw=>h w (List.mem_cons_of_mem _ hw)]
  split
  ·have:x ≠ n:=by rintro rfl; exact h v List.mem_cons_self
   simp [this]
  ·rfl
theorem Ff {kindOf:Str->Option NameKind} {x:Str}:∀ {binds:List (Str × Value)} {m:Str->Option Value},(∀ v,(x,v) ∉ binds)->bindC kindOf binds m x = m x
 | [],_,_=>rfl
 | (n,v) :: r,m,h=>by
  unfold bindC
  rw [Ff fun w hw=>h w (List.mem_cons_of_mem _ hw)]
  split
  ·rfl
  ·have:x ≠ n:=by rintro rfl; exact h v List.mem_cons_self
   simp [this]
theorem Et {kindOf:Str->Option NameKind} {x:Str} {v:Value}:∀ {P:List Str} {vs:List Value} {i:Nat} {m:Str->Option Value},P.Nodup->P[i]? = some x->vs[i]? = some v->kindOf x = some .local ->
  bindL kindOf (P.zip vs) m x = some v
 | [],_,_,_,_,h,_,_=>by simp at h
 | _ :: _,[],_,_,_,_,h,_=>by simp at h
 | p :: P,w :: vs,0,m,nd,h1,h2,hk=>by
  simp at h1 h2; subst h1; subst h2
  show bindL kindOf ((p,w) :: P.zip vs) m p = _
  unfold bindL
  rw [Fs fun v hv=>(List.nodup_cons.mp nd).1 (List.of_mem_zip hv).1,if_pos hk]
  simp
 | p :: P,w :: vs,i + 1,m,nd,h1,h2,hk=>by
  show bindL kindOf ((p,w) :: P.zip vs) m x = _
  unfold bindL
  exact Et (i:=i) (List.nodup_cons.mp nd).2 (by simpa using h1) (by simpa using h2) hk
theorem Ft {kindOf:Str->Option NameKind} {x:Str} {v:Value}:∀ {P:List Str} {vs:List Value} {i:Nat} {m:Str->Option Value},P.Nodup->P[i]? = some x->vs[i]? = some v->kindOf x ≠ some .local ->
  bindC kindOf (P.zip vs) m x = some v
 | [],_,_,_,_,h,_,_=>by simp at h
 | _ :: _,[],_,_,_,_,h,_=>by simp at h
 | p :: P,w :: vs,0,m,nd,h1,h2,hk=>by
  simp at h1 h2; subst h1; subst h2
  show bindC kindOf ((p,w) :: P.zip vs) m p = _
  unfold bindC
  rw [Ff fun v hv=>(List.nodup_cons.mp nd).1 (List.of_mem_zip hv).1,if_neg hk]
  simp
 | p :: P,w :: vs,i + 1,m,nd,h1,h2,hk=>by
  show bindC kindOf ((p,w) :: P.zip vs) m x = _
  unfold bindC
  exact Ft (i:=i) (List.nodup_cons.mp nd).2 (by simpa using h1) (by simpa using h2) hk
noncomputable def Df (N:List Str) (vs:List V):St:=vs.map some ++ List.replicate (N.length - vs.length) none
noncomputable def Ty (CX:CXT) (P:Program) (w:World) (K:PySem.W.Frag) (mg:Str->Option Value) (base:Heap) (N:List Str) (qual:Str) (scope:Scope) (f:Addr) (cd:Value) (A:Around) (outer:List Env) (s:Shared) (H:Hp) (E:XK):Cx where
 prog:=P
 w:=w
 K:=K
 mg:=mg
 base:=base
 A:=A.deeper (envOfC qual scope s.heap.objs.size f cd)
 N:=N
 s₀:=s
 H₀:=H
 env:=envOfC qual scope s.heap.objs.size f cd
 outer:=outer
 stack:=envOfC qual scope s.heap.objs.size f cd :: outer
 ex:=[]
 calm:=true
 fn:=fun _=>true
 pn:=[]
 xe:=fun e s'=>wpAny (model P w) (A.deeper (envOfC qual scope s.heap.objs.size f cd)) (leaving (envOfC qual scope s.heap.objs.size f cd) e) (fun _ s''=>CX outer H s E e s'') (fun e' s''=>CX outer H s E e' s'') s'
theorem Jc {sc:Scope} {n:Nat} {x:Str} (h:sc.names.lookup x = some .cell):∃ c,(cellsFrom n sc.names []).lookup x = some c:=by
 have q:=PySem.W.cellsFrom_some sc.names n [] (.inl h)
 exact Option.isSome_iff_exists.mp q
theorem Nj {CX:CXT} {P:Program} {w:World} {K:PySem.W.Frag} {mg:Str->Option Value} {base:Heap} {N ps:List Str} {qual:Str} {scope:Scope} {f:Addr} {cd:Value} {A:Around} {outer:List Env} {s s1:Shared} {H:Hp} {E:XK} {us:List Value} {vs:List V}
  (S:FnScope N ps scope) (hd:A.handled = none) (e0:Env0 P w K mg base A outer s H) (hl:vs.length = ps.length) (r:Vals vs us)
  (x:InCallC s s.heap.objs.size (bindL (envOfC qual scope s.heap.objs.size f cd).kindOf (ps.zip us) fun _=>none) (cellsFrom (s.heap.objs.size + 1) scope.names []) (bindC (envOfC qual scope s.heap.objs.size f cd).kindOf (ps.zip us) fun _=>none) s1) :
  Inv (Ty CX P w K mg base N qual scope f cd A outer s H E) [] (Df N vs) H s1:=by
 have hpl:ps.length<=N.length:=by have:=congrArg List.length S.pre; rw [List.length_take] at this; omega
 obtain ⟨h1,tk,rfl,hk⟩:=x.done
 have noA:∀ b:Addr,b ∉ (Ty CX P w K mg base N qual scope f cd A outer s H E).ex:=fun b z=>absurd (show b ∈ ([]:List Addr) from z) (by simp)
 refine ⟨⟨e0.mod,S.kind,rfl,rfl,Nat.le_refl _,fun y z c h1 h2=>?_,fun y hy=>?_,fun y c _ h=>?_,fun _=>hd,Around.frames_deeper e0.frames,.inr ⟨rfl,rfl⟩,fun b z=>absurd z (noA b),e0.bs,e0.bsz,fun b _ _=>noA b,fun b z=>absurd z (noA b),e0.funs,e0.frf⟩,
  rfl,e0.bare,Un.kept hk,⟨_,x.toInCall.ns,fun i y v h1 h2 h3=>?_⟩,fun y c h=>⟨_,x.cell y c h⟩,e0.hok.fresh (Nat.le_refl _),fun y c h=>?_,fun p hp=>absurd (show p ∈ ([]:List (Addr × Obj)) from hp) (by simp),e0.hok.kept hk,?_⟩
 ·exact name_of_addr x.apart (PySem.mem_of_lookup h1) (PySem.mem_of_lookup h2)
 ·have hy:scope.names.lookup y = some .cell\/scope.names.lookup y = some .free:=hy
  rcases hy with hy | hy
  ·exact Jc hy
  ·exact absurd rfl (S.nofree _ (PySem.mem_of_lookup hy))
 ·exact Nat.le_of_lt (x.above y c (PySem.mem_of_lookup h))
 ·have hi:i < vs.length:=by
   unfold Df at h2
   by_cases hi:i < vs.length
   ·exact hi
   ·rw [List.getElem?_append_right (by simpa using hi)] at h2
    rw [List.getElem?_replicate] at h2
    split at h2 <;> cases h2
  have ha:vs[i]? = some v:=by
   unfold Df at h2
   rw [List.getElem?_append_left (by simpa using hi),List.getElem?_map] at h2
   cases e:vs[i]? with
   | none=>rw [e] at h2; cases h2
   | some a=>rw [e] at h2; cases h2; rfl
  obtain ⟨u,hu,rv⟩:=r.get ha
  have hp:ps[i]? = some y:=by
   rw [<-S.pre,List.getElem?_take_of_lt (by omega)]; exact h1
  have ndP:ps.Nodup:=by rw [<-S.pre]; exact S.nd.sublist (List.take_sublist _ _)
  refine ⟨u,rv,?_⟩
  rcases S.par y (List.mem_of_getElem? hp) with k | k
  ·exact .inl ⟨k,Et ndP hp hu k⟩
  ·obtain ⟨c,e⟩:=Jc (n:=s.heap.objs.size + 1) k
   refine .inr ⟨.inl k,c,e,?_⟩
   have q:=x.cell y c e
   rw [Ft ndP hp hu (by show scope.names.lookup y ≠ _; rw [k]; decide)] at q
   exact q
 ·exact e0.hok.fresh (Nat.le_of_lt (x.above y c (PySem.mem_of_lookup h)))
 ·unfold Df
  show _ = N.length
  rw [List.length_append,List.length_map,List.length_replicate]
  omega
theorem Xp {CX:CXT} {P:Program} {w:World} {K:PySem.W.Frag} {mg:Str->Option Value} {base:Heap} {k:Nat} {f:Addr} {name qual:Str} {params:Arguments} {body:List Stmt} {scope:Scope} {dV kV doc pm cdv ct oc:Value} {an od:Option Addr}
  {osl:Array (Option Value)} {N ps:List Str} {sp:Sp} (lk:K.lookup f = some ⟨oc,od,.func (PySem.W.fnOf name qual params body scope dV kV doc pm an cdv ct),osl⟩) (hcd:PySem.W.codeIn K cdv qual = true) (S:FnScope N ps scope)
  (len:∀ vs H Q E,sp vs H Q E->vs.length = ps.length)
  (hbody:∀ (A:Around) (outer:List Env) (s:Shared) (H:Hp) (vs:List V) (Q:VK) (E:XK),Room k (A.deeper (envOfC qual scope s.heap.objs.size f cdv))->sp vs H Q E ->
   ∃ t,PSs (Ty CX P w K mg base N qual scope f cdv A outer s H E) body t/\t { nx:=fun _ H'=>Q .non H',rt:=Q } (Df N vs) H) :
  FnOk P w K mg base CX (k + 1) f (PySem.W.fnOf name qual params body scope dV kV doc pm an cdv ct) ps sp:=by
 refine ⟨len,fun A outer s H args us vs Q E hr e0 hb r hsp=>?_⟩
 have hl:=len _ _ _ _ hsp
 have KX:K.In s.heap:=e0.mod.kin.keeps fun b o e=>(e0.bs b o e).1
 have lim:s.heap.NoLimit:=e0.mod.nolimit.keeps fun b o e=>(e0.bs b o e).1
 have hkind:∀ y ∈ ps.zip us,scope.names.lookup y.1 = some .local\/(scope.names.lookup y.1 = some .cell/\((cellsFrom (s.heap.objs.size + 1) scope.names []).lookup y.1).isSome = true):=fun ⟨n,v⟩ hy=>by
  rcases S.par n (List.of_mem_zip hy).1 with q | q
  ·exact .inl q
  ·exact .inr ⟨q,PySem.W.cellsFrom_some _ _ _ (.inl q)⟩
 refine codeAny_call_function hr.depth (KX _ _ lk) rfl S.co S.gen rfl (PySem.W.codeRec_of KX hcd) (hb _ _ _ _ ?_)
 refine wpAny_newFunctionEnv_cells S.kind hkind fun env he s1 x=>?_
 subst he
 refine ⟨lim.keeps x.toInCall.keep,codeAny_func ?_⟩
 obtain ⟨t,ht,hq⟩:=hbody A outer s H vs Q E (hr.deeper _) hsp
 have I:Inv (Ty CX P w K mg base N qual scope f cdv A outer s H E) [] (Df N vs) H s1:=Nj S hr.hd e0 hl r x
 refine wpAny_mono (ht [] s1 (Df N vs) H _ I hq) (fun fl s' hs=>?_) fun e s' hs=>hs
 have fin:∀ {σ':St} {H':Hp} {v:V} {u:Value},Inv (Ty CX P w K mg base N qual scope f cdv A outer s H E) [] σ' H' s'->RelV v u->Q v H'->CE outer P w H s Q u s' :=
  fun {σ' H' v u} J rv q=>⟨v,H',J.os,J.bare,J.base,J.hok,rv,q⟩
 cases fl with
 | ret u =>
  obtain ⟨v,σ',H',J,rv,q⟩:=hs
  exact fin J rv q
 | next =>
  obtain ⟨σ',H',J,q⟩:=hs
  exact fin (v:=V.non) (u:=Value.none) J rfl q
 | brk =>
  obtain ⟨_,_,_,q⟩:=hs
  exact False.elim q
 | cont =>
  obtain ⟨_,_,_,q⟩:=hs
  exact False.elim q
end L2
namespace L2
open PySem PySem.Spec PyProof.Rows
section
variable {X:Cx} {x:Str} {p pos:Pos} {e:Expr} {es:List Expr} {t:TA} {id T:String} {r:List V->Hp->VK->Prop}
noncomputable def tCB (r:List V->Hp->VK->Prop) (t:TA):TE:=fun σ H Q=>t σ H fun vs H1=>r vs H1 Q
theorem Rq (hc:E9 X (.builtin id) r) (hg:Gl X x) (hm:X.mg x = none) (hv:bootBuiltins x = some (.builtin id)) (ha:PA X (e :: es) t) (hn:x ≠ "__name__":=by decide) (hdb:(x == ("__debug__":Str)) = false:=by decide)
  (he:starEach (e :: es) X.env = (false,eval e X.env) :: starEach es X.env:=by rfl) (hpl:(backTo pos (starEach es X.env)).any (·.1) = false:=by rfl):PE X (.Call (.Name x p) (e :: es) [] pos) (tCB r t):=by
 intro pins s σ H Q I h
 refine wpAny_Call_Name_kw (t9 I hg hm hv ?_ hn hdb)
 exact PyProof.Rows.callWith_builtin1 (thn (ha pos pins s σ H _ I h) fun us s1 ⟨vs,H1,I1,r1,q1⟩=>hc pins s1 σ H1 vs us Q I1 r1 q1) he hpl
theorem Mc (hc:E9 X (.type T) r) (hg:Gl X x) (hm:X.mg x = none) (hv:bootBuiltins x = some (.type T)) (ha:PA X (e :: es) t) (hn:x ≠ "__name__":=by decide) (hdb:(x == ("__debug__":Str)) = false:=by decide)
  (he:starEach (e :: es) X.env = (false,eval e X.env) :: starEach es X.env:=by rfl) (hpl:(backTo pos (starEach es X.env)).any (·.1) = false:=by rfl):PE X (.Call (.Name x p) (e :: es) [] pos) (tCB r t):=by
 intro pins s σ H Q I h
 refine wpAny_Call_Name_kw (t9 I hg hm hv ?_ hn hdb)
 exact PyProof.Rows.callWith_type1 (thn (ha pos pins s σ H _ I h) fun us s1 ⟨vs,H1,I1,r1,q1⟩=>hc pins s1 σ H1 vs us Q I1 r1 q1) he hpl
theorem Ci (hc:E9 X (.type T) r) (hg:Gl X x) (hm:X.mg x = none) (hv:bootBuiltins x = some (.type T)) (hn:x ≠ "__name__":=by decide) (hdb:(x == ("__debug__":Str)) = false:=by decide) :
  PE X (.Call (.Name x p) [] [] pos) (tCB r Tv):=by
 intro pins s σ H Q I h
 refine wpAny_Call_Name_kw (t9 I hg hm hv ?_ hn hdb)
 exact PyProof.Rows.callWith_type0 (hc pins s σ H [] [] Q I .nil h)
end
end L2
namespace HT
open PySem PyProof.Rows
section
variable {prog:Program} {w:World} {A:Around} {E:Value->Shared->Prop} {s:Shared}
noncomputable def sIx (n d:Nat):Option Int->Nat
 | none=>d
 | some v=>if v < 0 then (v + (n:Int)).toNat else min v.toNat n
theorem sIx_none (n d:Nat):sIx n d none = d:=rfl
theorem sIx_nat (n d k:Nat):sIx n d (some (k:Int)) = min k n:=by
 show (if (k:Int) < 0 then ((k:Int) + (n:Int)).toNat else min (k:Int).toNat n) = min k n
 rw [if_neg (by omega),Int.toNat_natCast]
end
end HT
namespace L2
open PySem PySem.Spec PyProof.Rows
noncomputable abbrev TO:=St->Hp->(Option Int->Hp->Prop)->Prop
noncomputable def PO (X:Cx) (e:Option Expr) (t:TO):Prop :=
 ∀ (pins:List (Addr × Obj)) (s:Shared) (σ:St) (H:Hp) (Q:Option Int->Hp->Prop),Inv X pins σ H s->t σ H Q ->
  wpAny (model X.prog X.w) X.A (evalPart e X.env) (fun u s'=>∃ o H',Inv X pins σ H' s'/\IsPart u o/\Q o H') X.xe s
noncomputable def Uo:TO:=fun _ H Q=>Q none H
noncomputable def zAm (t:TE):TO:=fun σ H Q=>t σ H fun x H1=>∃ i,x = .int i/\Q (some i) H1
section
variable {X:Cx} {e:Expr} {te:TE} {lo hi:Option Expr} {tl th:TO} {pos p2:Pos}
theorem Nl:PO X none Uo:=by
 intro pins s σ H Q I h
 rw [evalPart_none]
 exact wpAny_pure ⟨none,H,I,.none,h⟩
theorem Dr (h:PE X e te):PO X (some e) (zAm te):=by
 intro pins s σ H Q I hw
 rw [evalPart_some]
 refine thn (h pins s σ H _ I hw) fun u s1 ⟨x,H1,I1,r1,q1⟩=>?_
 obtain ⟨i,rfl,q⟩:=q1
 obtain ⟨t,rfl⟩:=r1
 exact ⟨some i,H1,I1,.int i t,q⟩
noncomputable def SlR (X:Cx) (r:V->Option Int->Option Int->Hp->VK->Prop):Prop :=
 ∀ (pins:List (Addr × Obj)) (s:Shared) (σ:St) (H:Hp) (x:V) (v vl vu:Value) (lo hi:Option Int) (sl:Addr) (Q:VK),Inv X pins σ H s->RelV x v->s.heap.IsSliceOf sl vl vu .none->IsPart vl lo->IsPart vu hi->r x lo hi H Q ->
  ∃ T id,typeLookup (.type T) "__getitem__" = pure (some (.builtin id))/\s.TypeIs v T/\wpAny (model X.prog X.w) X.A (getItem v (.ref sl)) (EP X pins σ Q) X.xe s
noncomputable def tSl (r:V->Option Int->Option Int->Hp->VK->Prop) (te:TE) (tl th:TO):TE:=fun σ H Q=>te σ H fun x H1=>tl σ H1 fun l H2=>th σ H2 fun u H3=>r x l u H3 Q
theorem Sh {r:V->Option Int->Option Int->Hp->VK->Prop} (hr:SlR X r) (he:PE X e te) (hl:PO X lo tl) (hu:PO X hi th):PE X (.Subscript e (.Slice lo hi none p2) pos) (tSl r te tl th):=by
 intro pins s σ H Q I h
 refine Subscript_ (thn (he pins s σ H _ I h) fun v s1 ⟨x,H1,I1,r1,q1⟩=>?_)
 refine wpAny_Slice (thn (hl pins s1 σ H1 _ I1 q1) fun vl s2 ⟨l,H2,I2,pl,q2⟩=>thn (hu pins s2 σ H2 _ I2 q2) fun vu s3 ⟨u,H3,I3,pu,q3⟩=>?_)
 rw [evalPart_none]
 refine wpAny_pure ?_
 have I4:Inv X pins σ H3 { s3 with heap:=s3.heap.push { cls:=.type "slice",data:=.fields #[vl,vu,.none] } }:=I3.kept (t':=s3.toks) fun b ob q=>Heap.get?_push_of_some _ q
 obtain ⟨T,id,hT,ht,hg⟩:=hr pins { s3 with heap:=s3.heap.push { cls:=.type "slice",data:=.fields #[vl,vu,.none] } } σ H3 x v vl vu l u s3.heap.objs.size Q I4 r1 (Heap.IsSliceOf.new ..) pl pu q3
 show wpAny (model X.prog X.w) X.A (subscriptTail e (.Slice lo hi none p2) v (.ref s3.heap.objs.size)) (EP X pins σ Q) X.xe { s3 with heap:=s3.heap.push { cls:=.type "slice",data:=.fields #[vl,vu,.none] } }
 exact tail_any (ops:=[.ref s3.heap.objs.size,v]) ht hT hg (by with_unfolding_all rfl)
noncomputable def Wo (xs:List V) (lo hi:Option Int):List V:=(xs.drop (HT.sIx xs.length 0 lo)).take (HT.sIx xs.length xs.length hi - HT.sIx xs.length 0 lo)
theorem Hs (xs:List V) (lo hi:Option Int):(Wo xs lo hi).length<=xs.length:=by
 unfold Wo
 rw [List.length_take,List.length_drop]
 omega
end
end L2
namespace L2
open PySem PySem.Spec PyProof.Rows
noncomputable def ixN (n:Nat) (i:Int):Option Nat:=if 0<=i then (if i < n then some i.toNat else none) else if -(n:Int)<=i then some (i + n).toNat else none
noncomputable def atI {α:Type} (xs:List α) (i:Int):Option α:=(ixN xs.length i).bind fun j=>xs[j]?
theorem On {n:Nat} {i:Int} {j:Nat} (h:ixN n i = some j):seqIndex? i n = some j/\j < n/\-(n:Int)<=i/\i < n:=by
 unfold ixN at h
 by_cases h0:0<=i
 ·rw [if_pos h0] at h
  by_cases h1:i < n
  ·rw [if_pos h1] at h
   have e:i.toNat = j:=Option.some.inj h
   exact ⟨by rw [seqIndex_of h0 h1,e],by omega,by omega,h1⟩
  ·rw [if_neg h1] at h; cases h
 ·rw [if_neg h0] at h
  by_cases h1:-(n:Int)<=i
  ·rw [if_pos h1] at h
   have e:(i + n).toNat = j:=Option.some.inj h
   exact ⟨by rw [seqIndex_neg (by omega) h1,e],by omega,h1,by omega⟩
  ·rw [if_neg h1] at h; cases h
theorem Mr {α:Type} {xs:List α} {i:Int} {v:α} (h:atI xs i = some v):∃ j,seqIndex? i xs.length = some j/\xs[j]? = some v/\j < xs.length/\-(xs.length:Int)<=i/\i < xs.length:=by
 unfold atI at h
 cases e:ixN xs.length i with
 | none=>rw [e] at h; cases h
 | some j =>
  rw [e] at h
  obtain ⟨h1,h2,h3,h4⟩:=On e
  exact ⟨j,h1,h,h2,h3,h4⟩
theorem Q8 {α:Type} {xs:List α} {j:Nat} {v:α} (h:xs[j]? = some v):atI xs (j:Int) = some v:=by
 have hj:j < xs.length:=(List.getElem?_eq_some_iff.mp h).1
 have e:ixN xs.length (j:Int) = some j:=by
  unfold ixN
  rw [if_pos (by omega),if_pos (by omega)]; simp
 unfold atI; rw [e]; exact h
noncomputable def Uh (b:Expr):Prop:=∀ o i,subscripted b false o i = operate [o,i] (getItem o i)
noncomputable def IxR (X:Cx) (r:R2):Prop :=
 ∀ (value slice:Expr) (pins:List (Addr × Obj)) (s:Shared) (σ:St) (H:Hp) (x y:V) (v u:Value) (Q:VK),Inv X pins σ H s->RelV x v->RelV y u->r x y H Q ->
  subscripted slice false v u = operate [v,u] (getItem v u)->wpAny (model X.prog X.w) X.A (subscriptTail value slice v u) (EP X pins σ Q) X.xe s
noncomputable def MtR (X:Cx) (id:String) (r:V->List V->Hp->VK->Prop):Prop :=
 ∀ (pins:List (Addr × Obj)) (s:Shared) (σ:St) (H:Hp) (x:V) (xs:List V) (v:Value) (us:List Value) (Q:VK),Inv X pins σ H s->RelV x v->Vals xs us->r x xs H Q ->
  wpAny (model X.prog X.w) X.A (call (.builtin id) (v :: us)) (EP X pins σ Q) X.xe s
section
variable {X:Cx} {a b:Expr} {ta tb:TE} {pos:Pos}
theorem E3 {r:R2} (hr:IxR X r) (ha:PE X a ta) (hb:PE X b tb) (hs:Uh b):PE X (.Subscript a b pos) (tOp r ta tb):=by
 intro pins s σ H Q I h
 exact Subscript_ (zBb ha hb I h fun v u s2 x y H2 I2 rx ry q=>hr a b pins s2 σ H2 x y v u Q I2 rx ry q (hs _ _))
noncomputable def zBs (K:PySem.W.Frag):R2:=fun x y H Q=>∃ p xs i v,x = .ref p/\y = .int i/\SqL K H p xs/\atI xs i = some v/\Q v H
noncomputable def zBl (K:PySem.W.Frag):R2:=fun x y H Q=>∃ p xs i v,x = .ref p/\y = .int i/\SqT K H p xs/\atI xs i = some v/\Q v H
theorem Vp:IxR X (zBs X.K):=by
 intro value slice pins s σ H x y v u Q I rx ry h hs
 obtain ⟨p,xs,i,z,rfl,rfl,hq,he,q⟩:=h
 cases rx
 obtain ⟨t,rfl⟩:=ry
 obtain ⟨its,r,pl,hz⟩:=I.list hq
 obtain ⟨j,h1,h2,h3,h4,h5⟩:=Mr he
 obtain ⟨w,ew,rw'⟩:=r.get h2
 have hl:=r.length
 have hn:=Bm
 have fin:EP X pins σ Q w s:=⟨z,H,I,rw',q⟩
 by_cases h0:0<=i
 ·have hj:i.toNat = j:=by
   rw [seqIndex_of h0 h5] at h1
   exact Option.some.inj h1
  exact item_listR pl.isList h0 (by omega) (by rw [hj]; simpa using ew) fin hs
 ·have hj:(i + (its.toArray.size:Int)).toNat = j:=by
   rw [seqIndex_neg (by omega) h4] at h1
   rw [List.size_toArray,<-hl]
   exact Option.some.inj h1
  exact subscriptTail_builtinR (x:=w) pl.isList.typeIs slot_list_getitem.lookup
   (wpAny_getItem_list_neg (Q:=fun r s'=>r = w/\EP X pins σ Q r s') pl.isList (by omega) (by rw [List.size_toArray] <;> omega) (by omega) (by rw [hj]; simpa using ew) ⟨rfl,fin⟩) hs
theorem Zf:IxR X (zBl X.K):=by
 intro value slice pins s σ H x y v u Q I rx ry h hs
 obtain ⟨p,xs,i,z,rfl,rfl,hq,he,q⟩:=h
 cases rx
 obtain ⟨t,rfl⟩:=ry
 obtain ⟨its,r,pl,hz⟩:=I.tuple hq
 obtain ⟨j,h1,h2,h3,h4,h5⟩:=Mr he
 obtain ⟨w,ew,rw'⟩:=r.get h2
 have hl:=r.length
 have hn:=Bm
 have fin:EP X pins σ Q w s:=⟨z,H,I,rw',q⟩
 exact subscriptTail_builtinR (x:=w) pl.typeIs slot_tuple_getitem.lookup
  (getItem_tuple (j:=j) (Q:=fun r s'=>r = w/\EP X pins σ Q r s') pl (by omega) (by omega) (by rw [List.size_toArray,<-hl]; exact h1) (by simpa using ew) ⟨rfl,fin⟩) hs
theorem Ls (its:List Value) (n j:Nat) (u:Value):Obj.mapSeq (·.setIfInBounds j u) { cls:=.type "list",data:=.seq its.toArray n } = { cls:=.type "list",data:=.seq (its.set j u).toArray n }:=by
 simp [Obj.mapSeq]
theorem Inv.lst {pins:List (Addr × Obj)} {σ:St} {H:Hp} {s:Shared} {p:Addr} {xs:List V} (I:Inv X pins σ H s) (h:H p = some (.lst xs)) :
  ∃ (its:List Value) (n:Nat),Vals xs its/\s.heap.get? p = some { cls:=.type "list",data:=.seq its.toArray n }/\xs.length<=sizeLine:=by
 obtain ⟨z,its,n,r,e⟩:=I.hok p _ h
 exact ⟨its,n,r,e,z⟩
theorem Inv.lstUpd {pins:List (Addr × Obj)} {σ:St} {H:Hp} {s:Shared} {p:Addr} {xs ys:List V} {its its':List Value} {n n':Nat} {f:Obj->Obj} (I:Inv X pins σ H s) (h:H p = some (.lst xs))
  (ho:s.heap.get? p = some { cls:=.type "list",data:=.seq its.toArray n }) (hf:f { cls:=.type "list",data:=.seq its.toArray n } = { cls:=.type "list",data:=.seq its'.toArray n' }) (r:Vals ys its') (hz:ys.length<=sizeLine) (t:Nat) :
  Inv X pins σ (upd H p (.lst ys)) { s with heap:=s.heap.update p f,toks:=t }:=by
 have e:(s.heap.update p f).get? p = some { cls:=.type "list",data:=.seq its'.toArray n' }:=by
  rw [Heap.get?_update_self f ho (by rw [hf] <;> rfl),hf]
 refine I.write (x:=p) (e:=p) (by rw [h]; trivial) (.inl rfl) (fun b u hb q=>(Heap.get?_update_other _ _ (Ne.symm hb)).trans q) ⟨_,e⟩ ?_
 exact ⟨hz,its',n',r,e⟩
noncomputable def zAo:V->V->V->Hp->(Hp->Prop)->Prop:=fun o i v H Q=>∃ p xs k j,o = .ref p/\i = .int k/\H p = some (.lst xs)/\ixN xs.length k = some j/\Q (upd H p (.lst (xs.set j v)))
theorem Jj:zBr X zAo:=by
 intro pins s σ H o i v ov iv u Q I ro ri rv h
 obtain ⟨p,xs,k,j,rfl,rfl,hp,hj,q⟩:=h
 cases ro
 obtain ⟨t,rfl⟩:=ri
 obtain ⟨its,n,r,ho,hz⟩:=I.lst hp
 obtain ⟨h1,h2,h3,h4⟩:=On hj
 have hl:=r.length
 have hn:=Bm
 have I':Inv X pins σ (upd H p (.lst (xs.set j v))) { s with heap:=s.heap.update p (Obj.mapSeq (·.setIfInBounds j u)) } :=
  I.lstUpd hp ho (Ls its n j u) (r.set rv j) (by rw [List.length_set]; exact hz) s.toks
 by_cases h0:0<=k
 ·have hk:k.toNat = j:=by
   rw [seqIndex_of h0 h4] at h1
   exact Option.some.inj h1
  exact PySem.W.ki_setAt ho h0 (by omega) (by rw [List.size_toArray,<-hl]; exact h4) (by rw [hk]; exact ⟨_,I',q⟩)
 ·have hk:(k + (its.toArray.size:Int)).toNat = j:=by
   rw [seqIndex_neg (by omega) h3] at h1
   rw [List.size_toArray,<-hl]
   exact Option.some.inj h1
  exact PySem.W.ki_setBack ho (by omega) (by rw [List.size_toArray,<-hl]; exact h3) (by omega) (by rw [hk]; exact ⟨_,I',q⟩)
theorem Gn (lo hi:Option Int) (n:Nat):(sliceBounds lo hi none n).1 = ((HT.sIx n 0 lo:Nat):Int)/\(sliceBounds lo hi none n).2.1 = ((HT.sIx n n hi:Nat):Int)/\(sliceBounds lo hi none n).2.2 = 1:=by
 refine ⟨?_,?_,rfl⟩
 ·cases lo with
  | none=>simp [sliceBounds,HT.sIx]
  | some i =>
   simp only [sliceBounds,HT.sIx,Option.getD_none,show (1:Int) > 0 by decide,if_true]
   by_cases h:i < 0
   ·simp only [h,if_true] <;> omega
   ·simp only [h,if_false] <;> omega
 ·cases hi with
  | none=>simp [sliceBounds,HT.sIx]
  | some i =>
   simp only [sliceBounds,HT.sIx,Option.getD_none,show (1:Int) > 0 by decide,if_true]
   by_cases h:i < 0
   ·simp only [h,if_true] <;> omega
   ·simp only [h,if_false] <;> omega
theorem Da (its:List Value) (lo hi:Option Int):slicePick its.toArray lo hi none = ((its.drop (HT.sIx its.length 0 lo)).take (HT.sIx its.length its.length hi - HT.sIx its.length 0 lo)).toArray:=by
 obtain ⟨h1,h2,h3⟩:=Gn lo hi its.toArray.size
 unfold slicePick
 rw [h1,h2,h3]
 simp only [sliceRange_one,pick_run,List.size_toArray] <;> rfl
noncomputable def zBy (K:PySem.W.Frag):V->Option Int->Option Int->Hp->VK->Prop:=fun x lo hi H Q=>∃ a xs,x = .ref a/\SqL K H a xs/\∀ p,H p = none->Q (.ref p) (upd H p (.lst (Wo xs lo hi)))
theorem Uj:SlR X (zBy X.K):=by
 intro pins s σ H x v vl vu lo hi sl Q I rx hs pl pu h
 obtain ⟨a,xs,rfl,hx,q⟩:=h
 cases rx
 obtain ⟨its,r,ht,hz⟩:=I.list hx
 have hlen:=r.length
 refine ⟨"list",_,slot_list_getitem.lookup,ht.isList.typeIs,?_⟩
 refine wpAny_getItem_list_slice ht.isList hs pl pu .none (by simp) ?_ (by rw [List.size_toArray] <;> omega)
 rw [Da,<-hlen]
 refine ⟨.ref s.heap.objs.size,_,I.laid (t':=s.toks) (o:=.lst (Wo xs lo hi)) (fun b ob q=>Heap.get?_push_of_some _ q) (Nat.le_refl _) ?_,rfl,q _ (I.hok.fresh (Nat.le_refl _))⟩
 exact ⟨Nat.le_trans (Hs xs lo hi) hz,_,0,(r.drop (HT.sIx xs.length 0 lo)).take (HT.sIx xs.length xs.length hi - HT.sIx xs.length 0 lo),Heap.get?_push_size _ rfl⟩
noncomputable def Cs:V->Bool
 | .non=>true
 | .bl _=>true
 | .int _=>true
 | .str _=>true
 | _=>false
noncomputable def eqV:V->V->Bool
 | .non,.non=>true
 | .bl a,.bl b=>a == b
 | .bl a,.int b=>(if a then 1 else 0) == b
 | .int a,.bl b=>a == (if b then 1 else 0)
 | .int a,.int b=>a == b
 | .str a,.str b=>a == b
 | _,_=>false
theorem Zh {A:Around} {s:Shared} {y x:V} {u v:Value} (ry:RelV y u) (rx:RelV x v) (fy:Cs y = true) (fx:Cs x = true):SeqAt.EqAt A s u v (eqV y x):=by
 cases y with
 | non =>
  cases ry
  cases x with
  | non=>cases rx; exact SeqAt.EqAt.same _
  | bl b=>cases rx; exact SeqAt.EqAt.none_bool b
  | int b=>obtain ⟨t,rfl⟩:=rx; exact SeqAt.EqAt.none_int b t
  | str b=>obtain ⟨t,rfl⟩:=rx; exact SeqAt.EqAt.none_str b t
  | _=>exact absurd (show false = true from fx) Bool.false_ne_true
 | bl a =>
  cases ry
  cases x with
  | non=>cases rx; exact SeqAt.EqAt.bool_none a
  | bl b=>cases rx; exact SeqAt.EqAt.bool_bool a b
  | int b=>obtain ⟨t,rfl⟩:=rx; exact SeqAt.EqAt.bool_int a b t
  | str b=>obtain ⟨t,rfl⟩:=rx; exact SeqAt.EqAt.bool_str a b t
  | _=>exact absurd (show false = true from fx) Bool.false_ne_true
 | int a =>
  obtain ⟨t',rfl⟩:=ry
  cases x with
  | non=>cases rx; exact SeqAt.EqAt.int_none a t'
  | bl b=>cases rx; exact SeqAt.EqAt.int_bool a t' b
  | int b=>obtain ⟨t,rfl⟩:=rx; exact SeqAt.EqAt.int_int a t' b t
  | str b=>obtain ⟨t,rfl⟩:=rx; exact SeqAt.EqAt.int_str a t' b t
  | _=>exact absurd (show false = true from fx) Bool.false_ne_true
 | str a =>
  obtain ⟨t',rfl⟩:=ry
  cases x with
  | non=>cases rx; exact SeqAt.EqAt.str_none a t'
  | bl b=>cases rx; exact SeqAt.EqAt.str_bool a t' b
  | int b=>obtain ⟨t,rfl⟩:=rx; exact SeqAt.EqAt.str_int a t' b t
  | str b=>obtain ⟨t,rfl⟩:=rx; exact SeqAt.EqAt.str_str a t' b t
  | _=>exact absurd (show false = true from fx) Bool.false_ne_true
 | _=>exact absurd (show false = true from fy) Bool.false_ne_true
noncomputable def eqU (x:V) (u:Value):Bool:=match u with
 | .none=>eqV .non x
 | .bool b=>eqV (.bl b) x
 | .int i _=>eqV (.int i) x
 | .str z _=>eqV (.str z) x
 | _=>false
theorem Tu {x y:V} {u:Value} (r:RelV y u) (f:Cs y = true):eqU x u = eqV y x:=by
 cases y with
 | non=>cases r; rfl
 | bl b=>cases r; rfl
 | int i=>obtain ⟨t,rfl⟩:=r; rfl
 | str z=>obtain ⟨t,rfl⟩:=r; rfl
 | _=>exact absurd (show false = true from f) Bool.false_ne_true
theorem Am {x:V}:∀ {xs:List V} {us:List Value},Vals xs us->xs.all Cs = true->us.any (eqU x) = xs.any fun y=>eqV y x
 | _,_,.nil,_=>rfl
 | y :: xs,u :: us,.cons r t,f=>by
  rw [List.all_cons,Bool.and_eq_true] at f
  rw [List.any_cons,List.any_cons,Tu r f.1,Am t f.2]
theorem X8 {A:Around} {s:Shared} {x:V} {v:Value} (rx:RelV x v) (fx:Cs x = true):∀ {xs:List V} {us:List Value},Vals xs us->xs.all Cs = true->∀ u ∈ us,SeqAt.EqAt A s u v (eqU x u)
 | _,_,.nil,_=>fun u hu=>by cases hu
 | y :: xs,u :: us,.cons r t,f=>fun u' hu=>by
  rw [List.all_cons,Bool.and_eq_true] at f
  rcases List.mem_cons.mp hu with rfl | hu
  ·rw [Tu r f.1]; exact Zh r rx f.1 fx
  ·exact X8 rx fx t f.2 u' hu
noncomputable def inV (x:V) (xs:List V):Bool:=xs.any fun y=>eqV y x
noncomputable def rIn (K:PySem.W.Frag) (neg:Bool):R2:=fun x y H Q=>∃ p xs,y = .ref p/\(SqL K H p xs\/SqT K H p xs)/\Cs x = true/\xs.all Cs = true/\Q (.bl (if neg then !inV x xs else inV x xs)) H
theorem Ol:OpR X (compareOp .In) (rIn X.K false):=by
 intro pins s σ H x y v u Q I rx ry h
 obtain ⟨p,xs,rfl,hq,fx,fs,q⟩:=h
 cases ry
 rcases hq with hq | hq
 ·obtain ⟨its,r,pl,hz⟩:=I.list hq
  refine SeqAt.in_listAt (eqU x) pl.isList (fun w hw=>X8 rx fx r fs w (by simpa using hw)) ⟨.bl _,H,I,rfl,?_⟩
  rw [show its.toArray.any (eqU x) = its.any (eqU x) by simp,Am r fs]
  exact q
 ·obtain ⟨its,r,pl,hz⟩:=I.tuple hq
  refine SeqAt.in_tupleAt (eqU x) pl (fun w hw=>X8 rx fx r fs w (by simpa using hw)) ⟨.bl _,H,I,rfl,?_⟩
  rw [show its.toArray.any (eqU x) = its.any (eqU x) by simp,Am r fs]
  exact q
theorem En:OpR X (compareOp .NotIn) (rIn X.K true):=by
 intro pins s σ H x y v u Q I rx ry h
 obtain ⟨p,xs,rfl,hq,fx,fs,q⟩:=h
 cases ry
 rcases hq with hq | hq
 ·obtain ⟨its,r,pl,hz⟩:=I.list hq
  refine SeqAt.notIn_listAt (eqU x) pl.isList (fun w hw=>X8 rx fx r fs w (by simpa using hw)) ⟨.bl _,H,I,rfl,?_⟩
  rw [show its.toArray.any (eqU x) = its.any (eqU x) by simp,Am r fs]
  exact q
 ·obtain ⟨its,r,pl,hz⟩:=I.tuple hq
  refine SeqAt.notIn_tupleAt (eqU x) pl (fun w hw=>X8 rx fx r fs w (by simpa using hw)) ⟨.bl _,H,I,rfl,?_⟩
  rw [show its.toArray.any (eqU x) = its.any (eqU x) by simp,Am r fs]
  exact q
theorem Gc:E9 X (.builtin "len") (fun xs H Q=>∃ p ys,xs = [.ref p]/\(SqL X.K H p ys\/SqT X.K H p ys)/\Q (.int ys.length) H):=by
 intro pins s σ H xs us Q I r h
 obtain ⟨p,ys,rfl,hq,q⟩:=h
 obtain ⟨u,rfl,rx⟩:=X1 r
 cases rx
 have hn:=Bm
 rcases hq with hq | hq
 ·obtain ⟨its,r',pl,hz⟩:=I.list hq
  have hlen:=r'.length
  exact Calls.call_len_list pl.isList (by simp only [List.size_toArray] <;> omega) ⟨.int ys.length,H,I.tok _,⟨s.toks + 1,by rw [List.size_toArray,hlen]⟩,q⟩
 ·obtain ⟨its,r',pl,hz⟩:=I.tuple hq
  have hlen:=r'.length
  exact len_tuple pl (by simp only [List.size_toArray] <;> omega) ⟨.int ys.length,H,I.tok _,⟨s.toks + 1,by rw [List.size_toArray,hlen]⟩,q⟩
theorem Ev:E9 X (.builtin "len") (fun xs H Q=>∃ z,xs = [.str z]/\z.length<=sizeLine/\Q (.int z.length) H):=by
 intro pins s σ H xs us Q I r h
 obtain ⟨z,rfl,hz,q⟩:=h
 obtain ⟨u,rfl,t,rfl⟩:=X1 r
 have hn:=Bm
 exact len_str (by omega) ⟨.int z.length,H,I.tok _,⟨_,rfl⟩,q⟩
theorem Em:E9 X (.type "list") (fun xs H Q=>∃ p ys,xs = [.ref p]/\(SqL X.K H p ys\/SqT X.K H p ys)/\∀ l,H l = none->Q (.ref l) (upd H l (.lst ys))):=by
 intro pins s σ H xs us Q I r h
 obtain ⟨p,ys,rfl,hq,q⟩:=h
 obtain ⟨u,rfl,rx⟩:=X1 r
 cases rx
 have fin:∀ (its:List Value),Vals ys its->ys.length<=sizeLine->∀ (h':Heap) (c':Nat),(∀ b o',s.heap.get? b = some o'->h'.get? b = some o') ->
   h'.get? s.heap.objs.size = some { cls:=.type "list",dict:=none,data:=.seq its.toArray c',slots:=#[] }->EP X pins σ Q (.ref s.heap.objs.size) { s with heap:=h' }:=fun its r' hz h' c' kp e =>
  ⟨.ref s.heap.objs.size,_,I.laid (t':=s.toks) kp (Nat.le_refl _) (show ObjOk X.prog X.w _ h' _ (.lst ys) from ⟨hz,its,c',r',e⟩),rfl,q _ (I.hok.fresh (Nat.le_refl _))⟩
 rcases hq with hq | hq
 ·obtain ⟨its,r',pl,hz⟩:=I.list hq
  have hlen:=r'.length
  obtain ⟨o,ho,hc,n,hd⟩:=pl.isList
  exact call_list_seq p (.inl rfl) ho hc hd (fun h' c' kp e=>fin its r' hz h' c' kp e) (by simp only [List.size_toArray] <;> omega)
 ·obtain ⟨its,r',pl,hz⟩:=I.tuple hq
  have hlen:=r'.length
  obtain ⟨o,ho,hc,n,hd⟩:=pl
  exact call_list_seq p (.inr rfl) ho hc hd (fun h' c' kp e=>fin its r' hz h' c' kp e) (by simp only [List.size_toArray] <;> omega)
noncomputable def tyV (K:PySem.W.Frag) (T:String) (x:V) (H:Hp):Prop:=match x with
 | .str _=>T = "str"
 | .int _=>T = "int"
 | .ref p=>(T = "list"/\∃ xs,SqL K H p xs)\/(T = "tuple"/\∃ o,K.lookup p = some o/\o.cls = .type "tuple"/\o.dict = none) \/
   (T = "dict"/\((∃ kvs,H p = some (.dK kvs))\/∃ kvs,H p = some (.dT kvs)))\/(T = "set"/\∃ S n,H p = some (.set S n))
 | _=>False
theorem Ud {pins:List (Addr × Obj)} {σ:St} {H:Hp} {s:Shared} {T:String} {x:V} {v:Value} (I:Inv X pins σ H s) (r:RelV x v) (ty:tyV X.K T x H) :
  s.TypeIs v T/\∀ a,v = .ref a->∃ ob,s.heap.get? a = some ob/\ob.dict = none:=by
 cases x with
 | str z =>
  obtain ⟨t,rfl⟩:=r
  cases (show T = "str" from ty)
  exact ⟨typeIs_str s z t,fun _ e=>nomatch e⟩
 | int i =>
  obtain ⟨t,rfl⟩:=r
  cases (show T = "int" from ty)
  exact ⟨typeIs_int s i t,fun _ e=>nomatch e⟩
 | ref p =>
  cases r
  rcases ty with ⟨rfl,xs,hq⟩ | ⟨rfl,o,hk,hc,hd⟩ | ⟨rfl,hk⟩ | ⟨rfl,S,n,hk⟩
  ·obtain ⟨its,_,pl,_⟩:=I.list hq
   refine ⟨pl.isList.typeIs,fun a e=>?_⟩
   cases e
   obtain ⟨o,n,e,c,hd,_⟩:=pl
   exact ⟨o,e,hd⟩
  ·refine ⟨⟨o,I.kIn p o hk,hc⟩,fun a e=>?_⟩
   cases e
   exact ⟨o,I.kIn _ o hk,hd⟩
  ·have z:∃ o,s.heap.get? p = some o/\o.ExactDict:=by
    rcases hk with ⟨kvs,hk⟩ | ⟨kvs,hk⟩
    ·obtain ⟨_,_,_,_,o,_,_,e,ex,_⟩:=I.hok p _ hk
     exact ⟨o,e,ex⟩
    ·obtain ⟨_,_,_,_,o,_,_,e,ex,_⟩:=I.hok p _ hk
     exact ⟨o,e,ex⟩
   obtain ⟨o,e,ex⟩:=z
   refine ⟨⟨o,e,ex.1⟩,fun a e2=>?_⟩
   cases e2
   exact ⟨o,e,ex.2.1⟩
  ·obtain ⟨o,_,_,_,e,ex,_⟩:=I.hok p _ hk
   refine ⟨⟨o,e,ex.1⟩,fun a e2=>?_⟩
   cases e2
   exact ⟨o,e,ex.2.1⟩
 | _=>exact False.elim ty
noncomputable def zCe (K:PySem.W.Frag) (T:String) (r:V->List V->Hp->VK->Prop) (to:TE):TE:=fun σ H Q=>to σ H fun x H1=>tyV K T x H1/\r x [] H1 Q
noncomputable def tBM (K:PySem.W.Frag) (T:String) (r:V->List V->Hp->VK->Prop) (to:TE) (t:TA):TE:=fun σ H Q=>to σ H fun x H1=>tyV K T x H1/\t σ H1 fun xs H2=>r x xs H2 Q
variable {o e:Expr} {es:List Expr} {to:TE} {t:TA} {name:Str} {apos cpos:Pos} {T id:String} {r:V->List V->Hp->VK->Prop}
theorem Zw (pa:PlainAttrs T) (slot:Slot T name id) (hty:typeOf (.builtin id) = pure (.type "method_descriptor")) (hm:MtR X id r) (ho:PE X o to)
  (hbase:attributeBase o name X.env (eval o X.env) = eval o X.env:=by rfl) (hline:(apos.endLine == cpos.line) = true:=by rfl):PE X (.Call (.Attribute o name apos) [] [] cpos) (zCe X.K T r to):=by
 intro pins s σ H Q I h
 refine wpAny_Call_method0_late hbase hline (thn (ho pins s σ H _ I h) fun v s1 ⟨x,H1,I1,r1,ty,q1⟩=>?_)
 obtain ⟨h1,h2⟩:=Ud I1 r1 ty
 exact ⟨T,id,pa,slot,hty,h1,h2,Calls.callWith_builtin rfl (PySem.evalArgs_none (hm pins s1 σ H1 x [] v [] Q I1 r1 .nil q1))⟩
theorem zAx (pa:PlainAttrs T) (slot:Slot T name id) (hty:typeOf (.builtin id) = pure (.type "method_descriptor")) (hm:MtR X id r) (ho:PE X o to) (ha:PA X (e :: es) t)
  (hbase:attributeBase o name X.env (eval o X.env) = eval o X.env:=by rfl)
  (hfew:((backTo cpos (starEach (e :: es) X.env)).all (fun x=>!x.1) && (backToKw cpos (keywordEach [] X.env)).all (fun x=>x.1.isSome)
   && decide ((e :: es).length + ([]:List Keyword).length + (if ([]:List Keyword).isEmpty then 0 else 1) < 30)) = true:=by rfl)
  (hline:(apos.endLine == cpos.line) = true:=by rfl) (hs:starEach (e :: es) X.env = (false,eval e X.env) :: starEach es X.env:=by rfl) (hplain:(backTo cpos (starEach es X.env)).any (·.1) = false:=by rfl) :
  PE X (.Call (.Attribute o name apos) (e :: es) [] cpos) (tBM X.K T r to t):=by
 intro pins s σ H Q I h
 refine wpAny_Call_method_late hbase hfew hline rfl (thn (ho pins s σ H _ I h) fun v s1 ⟨x,H1,I1,r1,ty,q1⟩=>?_)
 obtain ⟨h1,h2⟩:=Ud I1 r1 ty
 refine ⟨T,id,pa,slot,hty,h1,h2,?_⟩
 have hA:=ha cpos pins s1 σ H1 _ I1 q1
 rw [hs] at hA ⊢
 refine Calls.callWith_builtin (by show (false || (backTo cpos (starEach es X.env)).any (·.1)) = false; rw [hplain] <;> rfl) (Calls.evalArgs_plain ?_)
 exact thn hA fun us s2 ⟨vs,H2,I2,r2,q2⟩=>hm pins s2 σ H2 x vs v us Q I2 r1 r2 q2
end
end L2
namespace L2
open PySem PySem.Spec PyProof.Rows
noncomputable def MtM (X:Cx) (id:String) (r:V->List V->Hp->VK->Prop):Prop :=
 ∀ (pins:List (Addr × Obj)) (s:Shared) (σ:St) (H:Hp) (x:V) (xs:List V) (v:Value) (us:List Value) (Q:VK),Inv X pins σ H s->RelV x v->Vals xs us->r x xs H Q ->
  wpAny (model X.prog X.w) X.A (call (.builtin id) (v :: us)) (EP X pins σ Q) X.xe s
theorem Vals.one:∀ {x:V} {us:List Value},Vals [x] us->∃ u,us = [u]/\RelV x u
 | _,_,.cons r .nil=>⟨_,rfl,r⟩
theorem Vals.two:∀ {x y:V} {us:List Value},Vals [x,y] us->∃ u v,us = [u,v]/\RelV x u/\RelV y v
 | _,_,_,.cons r (.cons q .nil)=>⟨_,_,rfl,r,q⟩
theorem Vals.zero:∀ {us:List Value},Vals [] us->us = []
 | _,.nil=>rfl
theorem Vals.dropLast {xs:List V} {us:List Value} (h:Vals xs us):Vals xs.dropLast us.dropLast:=by
 induction h with
 | nil=>exact .nil
 | cons r t ih =>
  cases t with
  | nil=>exact .nil
  | cons q t'=>exact .cons r ih
theorem Vals.eraseIdx:∀ {xs:List V} {us:List Value} (i:Nat),Vals xs us->Vals (xs.eraseIdx i) (us.eraseIdx i)
 | _,_,_,.nil=>.nil
 | _,_,0,.cons _ t=>t
 | _,_,i + 1,.cons r t=>.cons r (Vals.eraseIdx i t)
theorem Kn {α:Type} (l:List α):l.eraseIdx (l.length - 1) = l.dropLast:=by
 induction l with
 | nil=>rfl
 | cons a r ih =>
  cases r with
  | nil=>rfl
  | cons b r =>
   have e:(a :: b :: r).length - 1 = ((b :: r).length - 1) + 1:=by
    have h1:(a :: b :: r).length = r.length + 2:=rfl
    have h2:(b :: r).length = r.length + 1:=rfl
    omega
   rw [e,List.eraseIdx_cons_succ,ih]
   all_goals rfl
theorem Gj {α:Type}:∀ (l:List α) (i:Nat),(l.eraseIdx i).length<=l.length
 | [],_=>Nat.le_refl _
 | _ :: _,0=>Nat.le_succ _
 | _ :: r,i + 1=>Nat.succ_le_succ (Gj r i)
section
variable {X:Cx} {pins:List (Addr × Obj)} {σ:St} {H:Hp} {s:Shared} {l b:Addr} {xs ys zs:List V}
theorem Inv.lset {its its':List Value} {n:Nat} {f:Array Value->Array Value} {t':Nat} (I:Inv X pins σ H s) (hH:H l = some (.lst xs))
  (e:s.heap.get? l = some { cls:=.type "list",data:=.seq its.toArray n }) (hf:f its.toArray = its'.toArray) (hv:Vals ys its') (hz:ys.length<=sizeLine) :
  Inv X pins σ (upd H l (.lst ys)) { s with heap:=s.heap.update l (Obj.mapSeq f),toks:=t' }:=by
 have q:=PySem.IsL.update e f
 rw [hf] at q
 refine I.write (x:=l) (e:=l) (by rw [hH]; exact trivial) (.inl rfl) (fun b' u hb hu=>(Heap.get?_update_other s.heap (Obj.mapSeq f) (Ne.symm hb)).trans hu) ⟨_,q⟩ ?_
 exact ⟨hz,its',_,hv,q⟩
theorem Inv.lnew {its:List Value} {t':Nat} (I:Inv X pins σ H s) (hv:Vals ys its) (hz:ys.length<=sizeLine) :
  Inv X pins σ (upd H s.heap.objs.size (.lst ys)) { s with heap:=s.heap.push { cls:=.type "list",data:=.seq its.toArray },toks:=t' } :=
 I.laid (fun _ _ q=>Heap.get?_push_of_some _ q) (Nat.le_refl _) ⟨hz,its,0,hv,Heap.get?_push_size _ rfl⟩
theorem Inv.fresh (I:Inv X pins σ H s):H s.heap.objs.size = none:=I.hok.fresh (Nat.le_refl _)
theorem Inv.lstM (I:Inv X pins σ H s) (hH:H l = some (.lst xs)):xs.length<=sizeLine/\∃ (its:List Value) (n:Nat),Vals xs its/\xs.length = its.length/\s.heap.get? l = some { cls:=.type "list",data:=.seq its.toArray n }:=by
 obtain ⟨z,its,n,r,e⟩:=I.hok l _ hH
 exact ⟨z,its,n,r,r.length,e⟩
end
section
variable {X:Cx}
noncomputable def Wh:V->List V->Hp->VK->Prop:=fun x vs H Q=>∃ l xs y,x = .ref l/\vs = [y]/\H l = some (.lst xs)/\xs.length < sizeLine/\Q .non (upd H l (.lst (xs ++ [y])))
theorem E8:MtM X "list.append" Wh:=by
 intro pins s σ H x vs v us Q I rx rv h
 obtain ⟨l,xs,y,rfl,rfl,hH,hz,q⟩:=h
 cases rx
 obtain ⟨u,rfl,ru⟩:=rv.one
 obtain ⟨z,its,n,r,hl,e⟩:=I.lstM hH
 refine call_meets F.slot_list_append ⟨_,e,rfl⟩ F.entry_list_append (F.args_list_append_2 _ _) (PySem.list_append l its.toArray n u (by rw [List.size_toArray]; omega)) ⟨e,?_⟩
 refine ⟨.non,_,I.lset (its':=its ++ [u]) hH e (by simp) (r.append (.cons ru .nil)) ?_,rfl,q⟩
 rw [List.length_append,List.length_singleton]
 omega
noncomputable def zCg:V->List V->Hp->VK->Prop:=fun x vs H Q=>∃ l xs y,x = .ref l/\vs = []/\H l = some (.lst xs)/\xs[xs.length - 1]? = some y/\Q y (upd H l (.lst xs.dropLast))
theorem Tf:MtM X "list.pop" zCg:=by
 intro pins s σ H x vs v us Q I rx rv h
 obtain ⟨l,xs,y,rfl,rfl,hH,hy,q⟩:=h
 cases rx
 have hus:=rv.zero
 subst hus
 obtain ⟨z,its,n,r,hl,e⟩:=I.lstM hH
 obtain ⟨u,hu,ru⟩:=r.get hy
 have hy':its.toArray[its.toArray.size - 1]? = some u:=by
  show its.toArray[its.length - 1]? = some u
  rw [<-Array.getElem?_toList,<-hl]
  exact hu
 refine call_meets F.slot_list_pop ⟨_,e,rfl⟩ F.entry_list_pop (F.args_list_pop_1 _) (MeetsSeq.list_pop_last l its.toArray n u hy' (by rw [List.size_toArray]; omega)) ⟨e,?_⟩
 refine ⟨y,_,I.lset (its':=its.dropLast) hH e ?_ r.dropLast ?_,ru,q⟩
 ·show its.toArray.eraseIdxIfInBounds (its.toArray.size - 1) = its.dropLast.toArray
  rw [List.size_toArray,List.eraseIdxIfInBounds_toArray,Kn]
 ·rw [List.length_dropLast]
  omega
noncomputable def Xw:V->List V->Hp->VK->Prop:=fun x vs H Q=>∃ l xs i k y,x = .ref l/\vs = [.int i]/\H l = some (.lst xs)/\-(2 ^ 63)<=i/\i < 2 ^ 63/\seqIndex? i xs.length = some k/\xs[k]? = some y/\Q y (upd H l (.lst (xs.eraseIdx k)))
theorem Sz:MtM X "list.pop" Xw:=by
 intro pins s σ H x vs v us Q I rx rv h
 obtain ⟨l,xs,i,k,y,rfl,rfl,hH,h1,h2,hk,hy,q⟩:=h
 cases rx
 obtain ⟨u,rfl,ru⟩:=rv.one
 obtain ⟨t,rfl⟩:=ru
 obtain ⟨z,its,n,r,hl,e⟩:=I.lstM hH
 obtain ⟨w,hw,rw'⟩:=r.get hy
 refine call_meets F.slot_list_pop ⟨_,e,rfl⟩ F.entry_list_pop (F.args_list_pop_2 _ _)
  (MeetsSeq.list_pop_at l its.toArray n i t k w (fitsIndex_both h1 h2) (by rw [List.size_toArray,<-hl]; exact hk) (by rw [<-Array.getElem?_toList]; exact hw) (by rw [List.size_toArray]; omega)) ⟨e,?_⟩
 refine ⟨y,_,I.lset (its':=its.eraseIdx k) hH e ?_ (r.eraseIdx k) ?_,rw',q⟩
 ·show its.toArray.eraseIdxIfInBounds k = (its.eraseIdx k).toArray
  rw [List.eraseIdxIfInBounds_toArray]
 ·have:=Gj xs k
  omega
noncomputable def Yv:V->List V->Hp->VK->Prop:=fun x vs H Q=>∃ l xs,x = .ref l/\vs = []/\H l = some (.lst xs)/\Q .non (upd H l (.lst []))
theorem Ix:MtM X "list.clear" Yv:=by
 intro pins s σ H x vs v us Q I rx rv h
 obtain ⟨l,xs,rfl,rfl,hH,q⟩:=h
 cases rx
 have hus:=rv.zero
 subst hus
 obtain ⟨z,its,n,r,hl,e⟩:=I.lstM hH
 refine call_meets F.slot_list_clear ⟨_,e,rfl⟩ F.entry_list_clear (F.args_list_clear_1 _) (AutoSeq1.list_clear_list_0 l its.toArray n (by rw [List.size_toArray]; omega)) ⟨e,?_⟩
 exact ⟨.non,_,I.lset (its':=[]) (ys:=[]) hH e rfl .nil (Nat.zero_le _),rfl,q⟩
noncomputable def zCf:R2:=fun x y H Q=>∃ l b xs zs,x = .ref l/\y = .ref b/\H l = some (.lst xs)/\H b = some (.lst zs)/\xs.length + zs.length<=sizeLine/\∀ p,H p = none->Q (.ref p) (upd H p (.lst (xs ++ zs)))
theorem Te:OpR X (binaryOp .Add) zCf:=by
 intro pins s σ H x y v u Q I rx ry h
 obtain ⟨l,b,xs,zs,rfl,rfl,hH,hB,hz,q⟩:=h
 cases rx
 cases ry
 obtain ⟨z,its,n,r,hl,e⟩:=I.lstM hH
 obtain ⟨z2,its2,n2,r2,hl2,e2⟩:=I.lstM hB
 refine PySem.P.add_list e e2 ?_ (by rw [List.size_toArray,List.size_toArray]; omega)
 have ea:its.toArray ++ its2.toArray = (its ++ its2).toArray:=by simp
 rw [ea]
 exact ⟨.ref _,_,I.lnew (t':=s.toks) (r.append r2) (by rw [List.length_append]; omega),rfl,q _ I.fresh⟩
end
end L2
namespace L2
open PySem PySem.Spec PyProof.Rows
section
variable {κ:Type} [DecidableEq κ]
noncomputable def f9 (kvs:List (κ × V)) (k:κ):Option V:=(kvs.find? fun kv=>decide (kv.1 = k)).map (·.2)
noncomputable def Mg (kvs:List (κ × V)) (k:κ) (v:V):List (κ × V) :=
 if (kvs.any fun kv=>decide (kv.1 = k)) = true then kvs.map (fun kv=>if kv.1 = k then (kv.1,v) else kv) else kvs ++ [(k,v)]
theorem J7 {p:κ × V} {r:List (κ × V)} {k:κ} (e:p.1 = k):f9 (p :: r) k = some p.2:=by simp [f9,List.find?_cons,e]
theorem J5 {p:κ × V} {r:List (κ × V)} {k:κ} (e:¬ p.1 = k):f9 (p :: r) k = f9 r k:=by simp [f9,List.find?_cons,e]
theorem Ea (k:κ):∀ kvs:List (κ × V),(kvs.any fun kv=>decide (kv.1 = k)) = (f9 kvs k).isSome
 | []=>rfl
 | p :: r=>by
  rw [List.any_cons]
  by_cases e:p.1 = k
  ·simp only [J7 e,decide_eq_true e,Bool.true_or,Option.isSome_some]
  ·rw [J5 e,decide_eq_false e,Bool.false_or]; exact Ea k r
theorem Kg (k j:κ) (y:V):∀ kvs:List (κ × V),f9 (kvs.map fun kv=>if kv.1 = k then (kv.1,y) else kv) j = (f9 kvs j).map fun x=>if j = k then y else x
 | []=>rfl
 | p :: r=>by
  have ih:=Kg k j y r
  rw [List.map_cons]
  by_cases h:p.1 = k
  ·rw [if_pos h]
   by_cases e:p.1 = j
   ·rw [J7 (p:=(p.1,y)) e,J7 e,Option.map_some,if_pos (e.symm.trans h)]
   ·rw [J5 (p:=(p.1,y)) e,J5 e,ih]
  ·rw [if_neg h]
   by_cases e:p.1 = j
   ·rw [J7 (p:=p) e,J7 e,Option.map_some,if_neg (fun z=>h (e.trans z))]
   ·rw [J5 (p:=p) e,J5 e,ih]
theorem Ez (k j:κ) (y:V):∀ kvs:List (κ × V),f9 kvs k = none->f9 (kvs ++ [(k,y)]) j = if j = k then some y else f9 kvs j
 | [],_=>by
  by_cases e:k = j
  ·rw [if_pos e.symm]; exact J7 (p:=(k,y)) e
  ·rw [if_neg (fun z=>e z.symm)]; exact J5 (p:=(k,y)) e
 | p :: r,hn=>by
  rw [List.cons_append]
  have hk:¬ p.1 = k:=fun z=>by rw [J7 z] at hn; cases hn
  rw [J5 hk] at hn
  have ih:=Ez k j y r hn
  by_cases e:p.1 = j
  ·rw [J7 e,J7 e,if_neg (fun z=>hk (e.trans z))]
  ·rw [J5 e,J5 e,ih]
theorem Rn (kvs:List (κ × V)) (k j:κ) (y:V):f9 (Mg kvs k y) j = if j = k then some y else f9 kvs j:=by
 unfold Mg
 by_cases a:(kvs.any fun kv=>decide (kv.1 = k)) = true
 ·rw [if_pos a,Kg]
  rw [Ea] at a
  by_cases e:j = k
  ·obtain ⟨x,hx⟩:=Option.isSome_iff_exists.mp a
   rw [if_pos e,e,hx,Option.map_some,if_pos rfl]
  ·rw [if_neg e]
   cases f9 kvs j with
   | none=>rfl
   | some x=>rw [Option.map_some,if_neg e]
 ·rw [if_neg a]
  refine Ez k j y kvs ?_
  rw [Ea] at a
  cases q:f9 kvs k with
  | none=>rfl
  | some x=>rw [q] at a; exact (a rfl).elim
theorem Ae (kvs:List (κ × V)) (k:κ) (v:V):(Mg kvs k v).length<=kvs.length + 1:=by
 unfold Mg
 split
 ·rw [List.length_map]; omega
 ·rw [List.length_append,List.length_cons,List.length_nil]; omega
theorem KV.val {kvs:List (κ × V)} {vs:List (κ × Value)} (r:KV kvs vs) (k:κ):RelO (f9 kvs k) (valueAt vs k):=by
 unfold KV at r
 induction r with
 | nil=>exact True.intro
 | @cons p q ps qs h t ih =>
  obtain ⟨h1,h2⟩:=h
  by_cases e:p.1 = k
  ·have e':q.1 = k:=h1.symm.trans e
   have b:valueAt (q :: qs) k = some q.2:=by simp [valueAt,List.find?_cons,e']
   rw [J7 e,b]; exact h2
  ·have e':¬ q.1 = k:=fun z=>e (h1.trans z)
   have b:valueAt (q :: qs) k = valueAt qs k:=by simp [valueAt,List.find?_cons,e']
   rw [J5 e,b]; exact ih
theorem KV.any {kvs:List (κ × V)} {vs:List (κ × Value)} (r:KV kvs vs) (k:κ):(kvs.any fun kv=>decide (kv.1 = k)) = vs.any fun kv=>decide (kv.1 = k):=by
 unfold KV at r
 induction r with
 | nil=>rfl
 | cons h t ih=>rw [List.any_cons,List.any_cons,ih,h.1]
theorem KV.repl {kvs:List (κ × V)} {vs:List (κ × Value)} (r:KV kvs vs) (k:κ) {y:V} {u:Value} (ry:RelV y u) :
  KV (kvs.map fun kv=>if kv.1 = k then (kv.1,y) else kv) (vs.map fun kv=>if kv.1 = k then (kv.1,u) else kv):=by
 unfold KV at r ⊢
 induction r with
 | nil=>exact .nil
 | @cons p q ps qs h t ih =>
  rw [List.map_cons,List.map_cons]
  refine .cons ?_ ih
  obtain ⟨h1,h2⟩:=h
  by_cases e:p.1 = k
  ·rw [if_pos e,if_pos (h1.symm.trans e)]; exact ⟨h1,ry⟩
  ·rw [if_neg e,if_neg (fun z=>e (h1.trans z))]; exact ⟨h1,h2⟩
theorem KV.put {kvs:List (κ × V)} {vs:List (κ × Value)} (r:KV kvs vs) (k:κ) {y:V} {u:Value} (ry:RelV y u):KV (Mg kvs k y) (stored vs k u):=by
 unfold Mg stored
 rw [r.any k]
 by_cases e:(vs.any fun kv=>decide (kv.1 = k)) = true
 ·rw [if_pos e,if_pos e]; exact r.repl k ry
 ·rw [if_neg e,if_neg e]; exact Paired.snoc r ⟨rfl,ry⟩
theorem KV.length {kvs:List (κ × V)} {vs:List (κ × Value)} (r:KV kvs vs):kvs.length = vs.length:=Paired.length r
end
theorem Ow {P:Program} {w:World} {k:Key} {u:Value} (r:RelV (kV k) u):(C2 P w).is k u = true:=by
 cases k with
 | inl i=>obtain ⟨t,e⟩:=(show ∃ t,u = Value.int i t from r); subst e; exact Ij P w i t
 | inr x=>obtain ⟨t,e⟩:=(show ∃ t,u = Value.str x t from r); subst e; exact Ik P w x t
theorem Fb {P:Program} {w:World}:∀ {ks:List Key} {us:List Value},Vals (ks.map kV) us->ItemsAre (C2 P w) ks us
 | [],_,r=>by rw [List.map_nil] at r; cases r; exact .nil
 | k :: ks,_,r=>by
  rw [List.map_cons] at r
  cases r with
  | cons h t=>exact .cons (Ow h) (Fb t)
noncomputable abbrev KT (H:Hp):List (List Key × V)->List (List Key × Addr × Value)->Prop:=Paired fun p q=>p.1 = q.1/\H q.2.1 = some (.tup (p.1.map kV))/\RelV p.2 q.2.2
theorem KT.val {H:Hp} {kvs:List (List Key × V)} {xs:List (List Key × Addr × Value)} (r:KT H kvs xs) (k:List Key):RelO (f9 kvs k) ((atKey xs k).map (·.2)):=by
 induction r with
 | nil=>exact True.intro
 | @cons p q ps qs h t ih =>
  obtain ⟨h1,_,h2⟩:=h
  by_cases e:p.1 = k
  ·have e':q.1 = k:=h1.symm.trans e
   have b:atKey (q :: qs) k = some q.2:=by simp [atKey,List.find?_cons,e']
   rw [J7 e,b]; exact h2
  ·have e':¬ q.1 = k:=fun z=>e (h1.trans z)
   have b:atKey (q :: qs) k = atKey qs k:=by simp [atKey,List.find?_cons,e']
   rw [J5 e,b]; exact ih
section
variable {P:Program} {w:World} {H:Hp} {h:Heap} {a:Addr}
theorem Xv {u:HO} (ok:HOk P w H h) (e:Rd H a u):ObjOk P w H h a u:=e.ok ok
theorem Wa {kvs:List (Key × V)} (ok:HOk P w H h) (e:Rd H a (.dK kvs)):kvs.length<=sizeLine/\(a == sysModules) = false/\∃ vs,KV kvs vs/\h.DictOf (C2 P w) a vs :=
 show ObjOk P w H h a (.dK kvs) from Xv ok e
theorem zAn {kvs:List (Key × V)} (ok:HOk P w H h) (e:H a = some (.dK kvs)):kvs.length<=sizeLine/\(a == sysModules) = false/\∃ vs,KV kvs vs/\h.DictOf (C2 P w) a vs:=Wa ok (.inl e)
theorem Bp {ks:List Key} (ok:HOk P w H h) (e:H a = some (.tup (ks.map kV))):(tupleKind (C2 P w)).is h ks a:=by
 obtain ⟨_,its,r,o,h1,h2,n,h3⟩:=(show ObjOk P w H h a (.tup (ks.map kV)) from ok a _ e)
 exact ⟨o,its.toArray,n,h1,h2,h3,by simpa using Fb r⟩
theorem Ya {kvs:List (List Key × V)} (ok:HOk P w H h) (e:Rd H a (.dT kvs)):kvs.length<=sizeLine/\(a == sysModules) = false /\
  ∃ xs,KT H kvs xs/\h.DictOfH (tupleKind (C2 P w)) a xs:=by
 obtain ⟨z,y,xs,r,o,es,ep,h1,h2,h3,h4,h5⟩:=(show ObjOk P w H h a (.dT kvs) from Xv ok e)
 refine ⟨z,y,xs,r,o,es,ep,h1,h2,h3,h4,fun x hx=>?_,h5⟩
 have all:∀ {l:List (List Key × V)} {m:List (List Key × Addr × Value)},KT H l m->∀ x ∈ m,(tupleKind (C2 P w)).is h x.1 x.2.1:=by
  intro l m q
  induction q with
  | nil=>intro x hx; exact nomatch hx
  | @cons p q ps qs hq t ih =>
   intro x hx
   rcases List.mem_cons.mp hx with e | hx
   ·subst e
    exact Bp ok (by rw [<-hq.1]; exact hq.2.1)
   ·exact ih x hx
 exact all r x hx
end
noncomputable def DGet (H:Hp) (a:Addr) (y:V) (r:Option V):Prop :=
 (∃ kvs k,Rd H a (.dK kvs)/\y = kV k/\r = f9 kvs k)\/∃ kvs k b,Rd H a (.dT kvs)/\y = .ref b/\H b = some (.tup (k.map kV))/\r = f9 kvs k
theorem DGet.k {H:Hp} {a:Addr} {kvs:List (Key × V)} {k:Key} (e:H a = some (.dK kvs)):DGet H a (kV k) (f9 kvs k):=.inl ⟨kvs,k,.inl e,rfl,rfl⟩
section
variable {X:Cx} {pins:List (Addr × Obj)} {σ:St} {H:Hp} {s:Shared} {a:Addr} {y v:V} {u r:Value} {o:Option V} {A:Around} {E:Value->Shared->Prop}
theorem Inv.big (I:Inv X pins σ H s):sysModules < s.heap.objs.size:=by
 have h:mainGlobals < s.heap.objs.size:=(I.mod.glob.keeps I.bk).lt
 exact Nat.lt_trans (by decide) h
theorem Pt {Q:Value->Shared->Prop} (hu:A.units + 1 < cLine) (I:Inv X pins σ H s) (g:DGet H a y (some v)) (ry:RelV y u) (h:∀ w' s',Inv X pins σ H s'->RelV v w'->Q w' s') :
  wpAny (model X.prog X.w) A (getItem (.ref a) u) Q E s:=by
 rcases g with ⟨kvs,k,e,ey,l⟩ | ⟨kvs,k,b,e,ey,eb,l⟩
 ·subst ey
  obtain ⟨z,hd,vs,rel,dd⟩:=Wa I.hok e
  obtain ⟨w',hw,rw'⟩:=RelO.some_of (v:=v) (o:=valueAt vs k) (by rw [l]; exact rel.val k)
  exact wpAny_getItem_of (Ow ry) dd.mapOf hw (h w' _ (I.tok _) rw')
 ·subst ey
  cases (show u = Value.ref b from ry)
  obtain ⟨z,hd,xs,rel,dd⟩:=Ya I.hok e
  obtain ⟨w',hw,rw'⟩:=RelO.some_of (v:=v) (o:=(atKey xs k).map (·.2)) (by rw [l]; exact rel.val k)
  obtain ⟨p,hp,hp2⟩:=Option.map_eq_some_iff.mp hw
  refine wpAny_getItem_heap (tupleKind_room_in1 hu) (Bp I.hok eb) dd hp ?_
  rw [hp2]
  exact h w' _ (I.tok _) rw'
theorem Wb {h':Heap} {t':Nat} {ob:HO} (I:Inv X pins σ H s) (mu:Mut (H a)) (hs:Heap.SameBut a s.heap h') (he:∃ q,h'.get? a = some q) (new:ObjOk X.prog X.w (upd H a ob) h' a ob) :
  Inv X pins σ (upd H a ob) { s with heap:=h',toks:=t' } :=
 I.write (x:=a) (e:=a) mu (.inl rfl) (fun b q hb z=>(hs.2 b hb).trans z) he new
theorem Yk {P:Program} {w:World} {H':Hp} {h':Heap} {kvs:List (Key × V)} {vs:List (Key × Value)} (z:kvs.length<=sizeLine) (hd:(a == sysModules) = false) (rel:KV kvs vs) (dd:h'.DictOf (C2 P w) a vs) :
  ObjOk P w H' h' a (.dK kvs):=⟨z,hd,vs,rel,dd⟩
end
noncomputable def zBn (i:Expr):Prop:=∀ ov iv,subscripted i false ov iv = operate [ov,iv] (getItem ov iv)
theorem Vw {prog:Program} {w:World} {A:Around} {E:Value->Shared->Prop} {s:Shared} {env:Env} {value slice:Expr} {pos:Pos} {T id:String} {Q:Value->Shared->Prop}
  (hl:typeLookup (.type T) "__getitem__" = pure (some (.builtin id))) (hs:zBn slice)
  (h:wpAny (model prog w) A (eval value env) (fun o s₁=>wpAny (model prog w) A (eval slice env) (fun i s₂=>s₂.TypeIs o T/\wpAny (model prog w) A (getItem o i) Q E s₂) E s₁) E s) :
  wpAny (model prog w) A (eval (.Subscript value slice pos) env) Q E s:=by
 refine Subscript_ (wpAny_mono h (fun o s₁ h₁=>wpAny_mono h₁ (fun i s₂ h₂=>?_) fun _ _ x=>x) fun _ _ x=>x)
 obtain ⟨hT,h₂⟩:=h₂
 unfold subscriptTail
 refine wpAny_bind ?_
 rw [getitemInPython_of_ne hT.not_modules]
 refine wpAny_bind (wpAny_specialOf hT hl ?_)
 have fin:wpAny (model prog w) A (subscripted slice false o i) (fun r s₃=>wpAny (model prog w) A (letTemporaryGo value o r >>= fun _=>pure r) Q E s₃) E s₂:=by
  rw [hs o i]
  exact wpAny_operating (wpAny_mono h₂ (fun r s₃ h₃=>wpAny_bind (wpAny_letTemporaryGo (wpAny_pure h₃))) fun _ _ x=>x)
 first
  | exact wpAny_pure (wpAny_bind fin)
  | exact wpAny_bind (wpAny_pure (wpAny_bind fin))
  | exact wpAny_bind fin
theorem Hf {X:Cx} {pins:List (Addr × Obj)} {σ:St} {H:Hp} {s:Shared} {a:Addr} {y:V} {o:Option V} (I:Inv X pins σ H s) (g:DGet H a y o):s.TypeIs (.ref a) "dict":=by
 rcases g with ⟨kvs,k,e,_,_⟩ | ⟨kvs,k,b,e,_,_,_⟩
 ·obtain ⟨_,_,vs,_,dd⟩:=Wa I.hok e
  exact dd.typeIs
 ·obtain ⟨_,_,xs,_,dd⟩:=Ya I.hok e
  exact dd.typeIs
noncomputable def zAu (td ty:TE):TE:=fun σ H Q=>td σ H fun x H1=>ty σ H1 fun y H2=>∃ a v,x = .ref a/\DGet H2 a y (some v)/\Q v H2
section
variable {X:Cx} {o i e value:Expr} {pos pos' tpos:Pos} {td ty tv:TE}
theorem Cu (hu:X.A.units + 1 < cLine) (ho:PE X o td) (hi:PE X i ty) (hs:zBn i):PE X (.Subscript o i pos) (zAu td ty):=by
 intro pins s σ H Q I h
 refine Vw PySem.F.slot_dict_getitem.lookup hs (thn (ho pins s σ H _ I h) fun u s1 ⟨x,H1,I1,rx,q1⟩=>thn (hi pins s1 σ H1 _ I1 q1) fun iv s2 ⟨y,H2,I2,ry,a,v,ex,g,q2⟩=>?_)
 subst ex
 obtain rfl:u = Value.ref a:=rx
 exact ⟨Hf I2 g,Pt hu I2 g ry fun w' s3 I3 rw'=>⟨v,H2,I3,rw',q2⟩⟩
end
theorem Se {P:Program} {w:World} {H:Hp} (h:Heap) (hb:sysModules < h.objs.size):ObjOk P w H (h.push { cls:=.type "dict",data:=.dict #[] }) h.objs.size (.dK []) :=
 ⟨Nat.zero_le _,beq_eq_false_iff_ne.mpr (Ne.symm (Nat.ne_of_lt hb)),[],.nil,Heap.DictOf.new h⟩
end L2
namespace Att
open PySem PySem.W PySem.Calls PyProof.Rows
theorem Aa {P:Params} {h:Heap}:∀ (ns:List Int) (vs:List Value),WellAll P h vs (ns.map WData.int)->IntsAre vs ns:=by
 intro ns
 induction ns with
 | nil =>
  intro vs w
  rw [List.map_nil] at w
  cases w
  exact .nil
 | cons n ns ih =>
  intro vs w
  rw [List.map_cons] at w
  cases w with
  | cons a b =>
   cases a
   exact .cons _ _ (ih _ b)
theorem Oi {l:OpenLaw} {n:Nat} (hn:l.most = some n) {P:Params} {h:Heap} {args:List WData} {vals:List Value}
  (hpre:l.row.toRowW.claim.pre args = true) (hwl:WellAll P h vals args) :
  ∃ a vs ns,vals = [Value.ref a]/\args = [WData.list (ns.map WData.int)]/\h.get? a = some { cls:=.type "list",data:=.seq vs.toArray }/\IntsAre vs ns/\ns.length<=n:=by
 have hsh:WShape.hasAll [] args [.list .int] = true:=(pre_splitW hpre).1
 have hc:l.pre.holds [] { args:=args } = true:=(pre_splitW hpre).2
 obtain ⟨d,r,rfl,h1,h2⟩:=hasAllW_cons hsh
 obtain rfl:=hasAllW_nil h2
 obtain ⟨xs,rfl,h3⟩:=hasW_list h1
 obtain ⟨ns,rfl⟩:=items_int h3
 have hlen:ns.length<=n:=by
  unfold OpenLaw.pre at hc
  have h4:(WTm.not (.lt (.lit (.int (n:Int))) (.len (.arg 0)))).holds [] { args:=[.list (ns.map .int)] } = true:=by
   have h4:=(holds_andW hc).1
   rw [hn] at h4
   exact h4
  have h5:=condW_of h4 (w_not (w_lt w_lit (w_len_list (w_arg rfl))))
  rw [List.length_map] at h5
  refine Nat.le_of_not_lt fun q=>?_
  have q':(n:Int) < ((ns.length:Nat):Int):=by omega
  first
   | (rw [decide_eq_true q'] at h5; exact absurd h5 (by decide))
   | (simp at h5; omega)
 cases hwl with
 | cons w1 w2 =>
  cases w2
  cases w1 with
  | list ho hall=>exact ⟨_,_,ns,rfl,rfl,ho,Aa ns _ hall,hlen⟩
theorem Pj (l:OpenLaw) (args:List WData):l.row.toRowW.claim.post args (.bool true) args = true :=
 postW_of (r:=l.row.toRowW) (X:=(true == true))
  (show WShape.has [] (.bool true) .bool = true by first | rfl | decide | simp [WShape.has,WShape.arms,WShape.armsAll])
  (show (WTm.eq .res (.lit (.bool true))).value [] { args:=args,res:=some (.bool true),after:=args } = some (.bool (true == true)) from w_eq_bool (w_res rfl) w_lit) rfl
theorem attach_call {l:OpenLaw} {n:Nat} {q:Program} {loose:List Str} {XP:(Str->Option Value)->Heap->Prop} {YP:World->Heap->Prop} {d:DefRec}
  (hn:l.most = some n) (hdf:d.params.defaults = [])
  (call:∀ (w:World) (s₀ s₁:Shared) (mg mb:Str->Option Value) (fa:Addr) (o:Obj) (pm cd doc:Value) (a:Addr) (vs:List Value) (ns:List Int),
   Ground q loose [] XP w s₀ mg mb s₁.heap->YP w s₁.heap ->
   s₁.heap.get? fa = some o->o.data = .func (docDef d.name d.params d.body d.scope pm cd doc)->s₁.heap.CodeRec cd d.name->mg d.name = some (.ref fa) ->
   s₁.heap.get? a = some { cls:=.type "list",data:=.seq vs.toArray }->IntsAre vs ns->ns.length<=n->s₁.gens = #[] ->
   codeAny (model l.prog w) callerA (.call (.ref fa) ⟨[.ref a],[]⟩) (fun r s'=>r = .ok (.ret (.bool true))/\OldK s₁.heap s'.heap/\s'.os = s₁.os/\AllBare s'.gens) s₁) :
  WalkO q loose XP YP l.row.toRowW d [] (fun f vs=>PySem.call f vs):=by
 intro w s₀ s₁ mg mb G Y fa o pm cd doc dV kV ho hd hcd hD hmg hg args vals as hpre hlay hrd hwl hlo
 obtain rfl:dV = .none:=Dflts.none hD hdf
 obtain rfl:kV = .none:=Dflts.noKw hD
 obtain ⟨a,vs,ns,rfl,rfl,hobj,hints,hlen⟩:=Oi hn hpre hwl
 refine enter_call (codeAny_mono (call w s₀ s₁ mg mb fa o pm cd doc a vs ns G Y ho (fd_plain hd) hcd hmg hobj hints hlen hg) fun r s' hq=>?_)
 obtain ⟨rfl,h2,h3,h4⟩:=hq
 exact ⟨.inl ⟨.bool true,.bool true,[],rfl,fun _=>rfl,.bool true,Pj l _,fun _=>⟨List.Pairwise.nil,fun _ hm=>(nomatch hm)⟩⟩,h2,h3,h4⟩
end Att
namespace L2
open PySem PySem.Spec PyProof.Rows
theorem Fk:∀ {vs:List Value} {ns:List Int},IntsAre vs ns->Vals (ns.map V.int) vs
 | _,_,.nil=>.nil
 | _,_,.cons n t h=>.cons ⟨t,rfl⟩ (Fk h)
noncomputable def zAl (H:Hp):Prop:=∀ b,H b = none\/∃ o xs,H b = some (.frz o (.lst xs))
theorem Rr {P:Program} {w:World} {K:PySem.W.Frag} {mg mb:Str->Option Value} {CX:CXT} {k:Nat} {fa a:Addr} {fd:FuncData} {x:Str} {sp:Sp} {s₁:Shared} {vs:List Value} {ns:List Int}
  (KX:K.In s₁.heap) (hns:s₁.heap.Ns mainGlobals mg) (hb:s₁.heap.Ns builtinsNs mb) (hbb:∀ x:Str,x ≠ "__name__"->mb x = bootBuiltins x) (hlim:s₁.heap.NoLimit) (hg:s₁.gens = #[])
  (ha:s₁.heap.get? a = some { cls:=.type "list",data:=.seq vs.toArray }) (hi:IntsAre vs ns) (hl:ns.length<=sizeLine) (hr:Room k callerA)
  (F:∀ base:Heap,K.In base->base.Ns mainGlobals mg->FnOk P w K mg base CX k fa fd [x] sp) (hbind:∀ (s:Shared) (u:Value),BindsTo s fd ⟨[u],[]⟩ [(x,u)])
  (hsp:∀ H:Hp,zAl H->SqL K H a (ns.map V.int)->sp [.ref a] H (fun v _=>v = .bl true) fun _ _ _=>False)
  (hCX:∀ H e s',CX [] H s₁ (fun _ _ _=>False) e s'->False) :
  codeAny (model P w) callerA (.call (.ref fa) ⟨[.ref a],[]⟩) (fun r s'=>r = .ok (.ret (.bool true))/\OldK s₁.heap s'.heap/\s'.os = s₁.os/\AllBare s'.gens) s₁:=by
 have rv:=Fk hi
 have lenV:=hi.length
 have core:∀ H:Hp,zAl H->SqL K H a (ns.map V.int)->HOk P w H s₁.heap->(∀ b,H b ≠ none->b = a)->(H a ≠ none->K.lookup a = none) ->
   codeAny (model P w) callerA (.call (.ref fa) ⟨[.ref a],[]⟩) (fun r s'=>r = .ok (.ret (.bool true))/\OldK s₁.heap s'.heap/\s'.os = s₁.os/\AllBare s'.gens) s₁:=by
  intro H hO hS hok hA hK
  have base_of:∀ {b:Addr} {o:Obj},s₁.heap.get? b = some o->H b = none->(Sl s₁.heap H).get? b = some o:=fun e n=>Qn e n
  have noA:∀ {b:Addr} {o:Obj} {es:Array DictEntry} {ep:Nat},s₁.heap.get? b = some o->o.data = .dict es ep->H b = none:=fun {b o es ep} e d=>by
   cases q:H b with
   | none=>rfl
   | some u =>
    have e':b = a:=hA b (by rw [q]; simp)
    subst e'
    rw [ha] at e; cases e
    have d':Data.seq vs.toArray _ = Data.dict es ep:=d
    cases d'
  have nsK:∀ {b:Addr} {m:Str->Option Value},s₁.heap.Ns b m->(Sl s₁.heap H).Ns b m:=fun {b m} ⟨o,es,ep,e,d,r⟩=>⟨o,es,ep,base_of e (noA e d),d,r⟩
  have hKb:K.In (Sl s₁.heap H):=fun b o e=>base_of (KX b o e) (by
   cases q:H b with
   | none=>rfl
   | some u =>
    have e':b = a:=hA b (by rw [q]; simp)
    subst e'
    rw [hK (by rw [q]; simp)] at e; cases e)
  have hM:Mod K mg (Sl s₁.heap H):=⟨hKb,nsK hns,⟨mb,nsK hb,hbb⟩,let ⟨mc,h1,h2⟩:=hlim; ⟨mc,nsK h1,h2⟩⟩
  have e0:Env0 P w K mg (Sl s₁.heap H) callerA [] s₁ H:=⟨rfl,hM,fun b o e=>Vz e,Nat.le_of_eq (Nh _ _),trivial,fun b hb=>absurd (show b ∈ ([]:List Addr) from hb) (by simp),hok,.of_eq hg⟩
  refine codeAny_mono ((F _ hKb (nsK hns)).run callerA [] s₁ H ⟨[.ref a],[]⟩ [.ref a] [.ref a] _ _ hr e0 (hbind s₁ (.ref a)) (.cons rfl .nil) (hsp H hO hS)) fun r s' h=>?_
  cases r with
  | error e=>exact (hCX H e s' h).elim
  | ok fl =>
   cases fl with
   | next=>exact False.elim h
   | brk=>exact False.elim h
   | cont=>exact False.elim h
   | ret u =>
    obtain ⟨v,H',os,bare,un,hok',r',q⟩:=h
    have q':v = .bl true:=q
    subst q'
    obtain rfl:u = Value.bool true:=r'
    refine ⟨rfl,OldK.of_keep fun b o e=>?_,os,bare⟩
    cases q:H b with
    | none=>exact un.keep b o e q (by intro z; exact absurd (show b ∈ ([]:List Addr) from z) (by simp)) (by simp)
    | some u =>
     rcases hO b with z | ⟨ob,xs,z⟩
     ·rw [q] at z; cases z
     ·have z2:=un.frzs b ob _ z
      obtain ⟨e1,_⟩:=hok b _ z
      obtain ⟨e2,_⟩:=hok' b _ z2
      rw [e] at e1; cases e1
      exact e2
 cases hk:K.lookup a with
 | some o =>
  have e:=KX a o hk
  rw [ha] at e
  cases e
  refine core (fun _=>none) (fun _=>.inl rfl) (.inr ⟨_,vs.toArray,_,hk,rfl,rfl,rfl,by rw [List.size_toArray,lenV]; exact hl,by simpa using rv⟩) (fun b u z=>by have z':(none:Option HO) = some u:=z; cases z') (fun b z=>absurd rfl z) fun z=>absurd rfl z
 | none =>
  refine core (fun b=>if b = a then some (.frz { cls:=.type "list",data:=.seq vs.toArray } (.lst (ns.map V.int))) else none) (fun b=>?_) (.inl (.inr ⟨{ cls:=.type "list",data:=.seq vs.toArray },if_pos rfl⟩)) (fun b u z=>?_) (fun b z=>?_) fun _=>hk
  ·by_cases hb:b = a
   ·exact .inr ⟨_,_,if_pos hb⟩
   ·exact .inl (if_neg hb)
  ·by_cases hb:b = a
   ·have z':=(if_pos hb).symm.trans z
    cases z'
    subst hb
    exact ⟨ha,by rw [List.length_map]; exact hl,vs,_,rv,ha⟩
   ·have z':=(if_neg hb).symm.trans z
    cases z'
  ·by_cases hb:b = a
   ·exact hb
   ·exact absurd (if_neg hb) z
end L2
namespace L2
open PySem PySem.Spec PyProof.Rows
theorem walk_of {l:PySem.W.OpenLaw} {n k:Nat} {q:Program} {loose:List Str} {XP:(Str->Option Value)->Heap->Prop} {YP:World->Heap->Prop} {d:DefRec} {K:Params->PySem.W.Frag} {CX:World->CXT} {sp:World->Sp} {x:Str}
  (hn:l.most = some n) (hn2:n<=sizeLine) (hdf:d.params.defaults = []) (hr:Room k callerA)
  (hY:∀ (w:World) (h:Heap),YP w h->(K w.params).In h)
  (F:∀ (w:World) (mg:Str->Option Value) (fa:Addr) (h:Heap),(K w.params).In h->h.Ns mainGlobals mg->mg d.name = some (.ref fa) ->
   ∃ fd:FuncData,(∀ (s:Shared) (u:Value),BindsTo s fd ⟨[u],[]⟩ [(x,u)]) /\
    ∀ base:Heap,(K w.params).In base->base.Ns mainGlobals mg->FnOk l.prog w (K w.params) mg base (CX w) k fa fd [x] (sp w))
  (hsp:∀ (w:World) (H:Hp) (a:Addr) (ns:List Int),ns.length<=n->zAl H->SqL (K w.params) H a (ns.map V.int)->sp w [.ref a] H (fun v _=>v = .bl true) fun _ _ _=>False)
  (hCX:∀ (w:World) (H:Hp) (s:Shared) (e:Value) (s':Shared),CX w [] H s (fun _ _ _=>False) e s'->False) :
  PySem.W.WalkO q loose XP YP l.row.toRowW d [] (fun f vs=>PySem.call f vs):=by
 refine Att.attach_call hn hdf fun w s₀ s₁ mg mb fa o pm cd doc a vs ns G Y ho hd hcd hmg hobj hints hlen hg=>?_
 have KX:=hY w _ Y
 obtain ⟨fd,hb,hF⟩:=F w mg fa _ KX G.T.g hmg
 exact Rr KX G.T.g G.T.b G.T.builtins G.T.nolimit hg hobj hints (Nat.le_trans hlen hn2) hr hF hb (fun H hO hS=>hsp w H a ns hlen hO hS) fun H e s'=>hCX w H s₁ e s'
end L2
namespace L2
open PySem PySem.Spec PyProof.Rows
noncomputable def E7 (s:Stmt) (j:Nat):Stmt:=match s with
 | .ClassDef _ _ _ body _ _ _ _ _ _ _=>body.getD j (.Pass ⟨0,0,0,0⟩)
 | _=>.Pass ⟨0,0,0,0⟩
noncomputable def Q2 (s:Stmt):Arguments:=match s with
 | .FunctionDef _ a _ _ _ _ _ _ _ _=>a
 | _=>{ posonlyargs:=[],args:=[],vararg:=none,kwonlyargs:=[],kw_defaults:=[],kwarg:=none,defaults:=[] }
noncomputable def M9 (s:Stmt):List Stmt:=match s with
 | .FunctionDef _ _ b _ _ _ _ _ _ _=>b
 | _=>[]
noncomputable def B5 (s:Stmt):Scope:=match s with
 | .FunctionDef _ _ _ _ _ _ sc _ _ _=>sc
 | _=>{ kind:=.function,names:=[],isGenerator:=false,isCoroutine:=false }
noncomputable abbrev CX0:CXT:=fun _ _ _ _ _ _=>False
noncomputable abbrev E0:XK:=fun _ _ _=>False
theorem F0 {X:Cx}:j8 CX0 X E0:=fun _ _ _ _ _ _ _ h=>h.elim
structure Fun (K:PySem.W.Frag) (x qual:Str) (st:Stmt) (f:Addr) (fd:FuncData):Prop where
 ex:∃ (oc:Value) (od:Option Addr) (kV doc pm:Value) (an:Option Addr) (cdv ct:Value) (osl:Array (Option Value)),
  fd = PySem.W.fnOf x qual (Q2 st) (M9 st) (B5 st) .none kV doc pm an cdv ct/\K.lookup f = some ⟨oc,od,.func fd,osl⟩/\PySem.W.codeIn K cdv qual = true
 kp:PySem.W.keepIn K (.ref f) = true
section
variable {P:Program} {w:World} {K:PySem.W.Frag} {mg:Str->Option Value} {base:Heap}
theorem Fun.ok {x qual:Str} {st:Stmt} {f:Addr} {fd:FuncData} {N ps:List Str} {k:Nat} {sp:Sp} (F:Fun K x qual st f fd) (S:FnScope N ps (B5 st)) (len:∀ vs H Q E,sp vs H Q E->vs.length = ps.length)
  (hbody:∀ (cdv:Value) (A:Around) (outer:List Env) (s:Shared) (H:Hp) (vs:List V) (Q:VK) (E:XK),Room k (A.deeper (envOfC qual (B5 st) s.heap.objs.size f cdv))->sp vs H Q E ->
   ∃ t,PSs (Ty CX0 P w K mg base N qual (B5 st) f cdv A outer s H E).nox (M9 st) t/\t { nx:=fun _ H'=>Q .non H',rt:=Q } (Df N vs) H):FnOk P w K mg base CX0 (k + 1) f fd ps sp:=by
 obtain ⟨oc,od,kV,doc,pm,an,cdv,ct,osl,rfl,lk,hcd⟩:=F.ex
 refine Xp lk hcd S len fun A outer s H vs Q E hr hsp=>?_
 obtain ⟨t,h,q⟩:=hbody cdv A outer s H vs Q E hr hsp
 exact ⟨t,h.nox,q⟩
theorem Fun.binds {x qual:Str} {st:Stmt} {f:Addr} {fd:FuncData} {ps:List Str} (F:Fun K x qual st f fd)
  (h:∀ (kV doc pm:Value) (an:Option Addr) (cdv ct:Value) (us:List Value),us.length = ps.length->bindArgs (PySem.W.fnOf x qual (Q2 st) (M9 st) (B5 st) .none kV doc pm an cdv ct) ⟨us,[]⟩ = pure (ps.zip us)):Binds K fd ps []:=by
 obtain ⟨oc,od,kV,doc,pm,an,cdv,ct,osl,rfl,lk,hcd⟩:=F.ex
 exact .all (h kV doc pm an cdv ct)
theorem fun_mk {x qual:Str} {st:Stmt} {f:Addr} {oc:Value} {od an:Option Addr} {osl:Array (Option Value)} {kV doc pm cdv ct:Value} (l:K.lookup f = some ⟨oc,od,.func (PySem.W.fnOf x qual (Q2 st) (M9 st) (B5 st) .none kV doc pm an cdv ct),osl⟩)
  (c:PySem.W.codeIn K cdv qual = true) (k:PySem.W.keepIn K (.ref f) = true):Fun K x qual st f (PySem.W.fnOf x qual (Q2 st) (M9 st) (B5 st) .none kV doc pm an cdv ct):=⟨⟨oc,od,kV,doc,pm,an,cdv,ct,osl,rfl,l,c⟩,k⟩
end
theorem Hg {A:Around} {k:Nat} (hr:Room k A):A.units + 1 < cLine:=Nat.lt_of_le_of_lt (Nat.add_le_add_left (by decide:1<=64) _) hr.units
section
variable {X:Cx}
theorem pv (i:Nat) {x:Str} {pos:Pos} (hN:X.N[i]? = some x:=by rfl) (hv:Vis X.env.scope x:=by first | exact Or.inl rfl | exact Or.inr (Or.inl rfl) | exact Or.inr (Or.inr rfl)) (hd:(x == ("__debug__":Str)) = false:=by decide)
  (hcd:(x == ("__classdict__":Str)) = false:=by decide):PE X (.Name x pos) (Mj i):=Yf hN hv hd hcd
end
theorem O4 {A B:Prop} (h:B):if false = true then A else B:=by
 rw [if_neg Bool.false_ne_true]
 exact h
theorem T6 {A B:Prop} (h:A):if true = true then A else B:=by
 rw [if_pos rfl]
 exact h
theorem Fz {c A B:Prop} [Decidable c] (h1:c->A) (h2:¬ c->B):if c then A else B:=by
 by_cases h:c
 ·rw [if_pos h]
  exact h1 h
 ·rw [if_neg h]
  exact h2 h
noncomputable def Same (H H':Hp):Prop:=∀ b o,H b = some o->H' b = some o
theorem Same.refl (H:Hp):Same H H:=fun _ _ h=>h
theorem Same.trans {H H1 H2:Hp} (a:Same H H1) (b:Same H1 H2):Same H H2:=fun c o h=>b c o (a c o h)
theorem Same.free {H H':Hp} (e:Same H H') {l:Addr} (h:H' l = Option.none):H l = Option.none:=by
 cases q:H l with
 | none=>rfl
 | some o =>
  rw [e l o q] at h
  cases h
end L2
namespace L2
open PySem PySem.Spec PyProof.Rows
section
variable {κ:Type} [DecidableEq κ]
theorem Op:∀ {l:List κ} {k:κ},l.Nodup->¬ k ∈ l->(l ++ [k]).Nodup
 | [],k,_,_=>by simp
 | a :: r,k,h,hk=>by
  obtain ⟨h1,h2⟩:=List.nodup_cons.mp h
  show (a :: (r ++ [k])).Nodup
  refine List.nodup_cons.mpr ⟨fun m=>?_,Op h2 fun m=>hk (List.mem_cons.mpr (Or.inr m))⟩
  rcases List.mem_append.mp m with q | q
  ·exact h1 q
  ·exact hk (List.mem_cons.mpr (Or.inl (List.mem_singleton.mp q).symm))
end
end L2
namespace L2
open PySem PySem.Spec PyProof.Rows
noncomputable def cxC (X:Cx) (scope:Scope) (cl:List (Str × Addr)) (N':List Str) (pins:List (Addr × Obj)) (ex:List Addr) (s3:Shared) (H3:Hp):Cx where
 prog:=X.prog
 w:=X.w
 K:=X.K
 mg:=X.mg
 base:=X.base
 A:=X.A
 N:=N'
 s₀:=s3
 H₀:=H3
 env:=compEnvC scope cl s3.heap.objs.size X.env
 outer:=X.stack
 stack:=X.stack
 ex:=ex
 fn:=fun _=>false
 calm:=X.calm
 pn:=X.pn ++ pins
 xe:=fun _ _=>False
noncomputable def Caps (X:Cx) (scope:Scope) (cl:List (Str × Addr)):List Str->List (Option Nat)->Prop
 | [],[]=>True
 | _ :: N,none :: c=>Caps X scope cl N c
 | x :: N,some j :: c=>(X.N[j]? = some x/\X.env.scope.names.lookup x = some .cell/\(relabel scope X.env).names.lookup x = some .cell/\cl.lookup x = X.env.cells.lookup x)/\Caps X scope cl N c
 | _,_=>False
noncomputable def ClIn (X:Cx):List (Str × Addr)->Prop
 | []=>True
 | p :: r=>X.env.cells.lookup p.1 = some p.2/\ClIn X r
structure CScope (X:Cx) (scope:Scope) (cl:List (Str × Addr)) (N':List Str) (cap:List (Option Nat)):Prop where
 kind:scope.kind = .function
 nocell:∀ y ∈ scope.names,y.2 ≠ .cell
 loc:∀ y ∈ scope.names,y.2 = .local->scope.names.lookup y.1 = some .local
 clos:closureFor scope X.env = pure cl
 cin:ClIn X cl
 has:((relabel scope X.env).names.all fun y=>!(y.2 == .cell || y.2 == .free) || (cl.lookup y.1).isSome) = true
 caps:Caps X scope cl N' cap
noncomputable def Ra (cap:List (Option Nat)) (σ:St):St:=cap.map fun o=>o.bind fun j=>(σ[j]?).join
theorem ClIn.get {X:Cx}:∀ {cl:List (Str × Addr)} {x:Str} {c:Addr},ClIn X cl->cl.lookup x = some c->X.env.cells.lookup x = some c
 | [],_,_,_,h=>by simp at h
 | (y,d) :: r,x,c,⟨h1,h2⟩,h=>by
  rw [List.lookup_cons] at h
  cases e:x == y with
  | true =>
   rw [e] at h
   cases h
   rw [beq_iff_eq.mp e]
   exact h1
  | false =>
   rw [e] at h
   exact ClIn.get h2 h
theorem Caps.len {X:Cx} {scope:Scope} {cl:List (Str × Addr)}:∀ {N:List Str} {cap:List (Option Nat)},Caps X scope cl N cap->cap.length = N.length
 | [],[],_=>rfl
 | _ :: N,none :: c,h=>by rw [List.length_cons,List.length_cons,Caps.len (N:=N) (cap:=c) h]
 | _ :: N,some j :: c,h=>by rw [List.length_cons,List.length_cons,Caps.len h.2]
 | [],_ :: _,h=>h.elim
 | _ :: _,[],h=>h.elim
theorem Caps.get {X:Cx} {scope:Scope} {cl:List (Str × Addr)} {j:Nat} {x:Str}:∀ {N:List Str} {cap:List (Option Nat)} {i:Nat},Caps X scope cl N cap->N[i]? = some x->cap[i]? = some (some j) ->
  X.N[j]? = some x/\X.env.scope.names.lookup x = some .cell/\(relabel scope X.env).names.lookup x = some .cell/\cl.lookup x = X.env.cells.lookup x
 | [],_,_,_,h,_=>by simp at h
 | _ :: _,[],_,_,_,h=>by simp at h
 | y :: N,none :: c,0,_,_,h=>by simp at h
 | y :: N,none :: c,i + 1,h,h1,h2=>Caps.get (N:=N) (cap:=c) (i:=i) h (by simpa using h1) (by simpa using h2)
 | y :: N,some k :: c,0,h,h1,h2=>by
  simp at h1 h2
  subst h1; subst h2
  exact h.1
 | y :: N,some k :: c,i + 1,h,h1,h2=>Caps.get (N:=N) (cap:=c) (i:=i) h.2 (by simpa using h1) (by simpa using h2)
section
variable {X:Cx} {scope:Scope} {cl:List (Str × Addr)} {N':List Str} {cap:List (Option Nat)} {pins:List (Addr × Obj)} {σ:St} {H3:Hp} {s3:Shared} {ex:List Addr}
theorem Cb {p:NameKind->Bool}:∀ {names:List (Str × NameKind)} {q:Str->NameKind->Bool} {x:Str} {k:NameKind},(names.all fun y=>q y.1 y.2) = true->names.lookup x = some k->q x k = true
 | [],_,_,_,_,h=>by simp at h
 | (y,d) :: r,q,x,k,ha,h=>by
  rw [List.all_cons,Bool.and_eq_true] at ha
  rw [List.lookup_cons] at h
  cases e:x == y with
  | true =>
   rw [e] at h
   cases h
   rw [beq_iff_eq.mp e]
   exact ha.1
  | false =>
   rw [e] at h
   exact Cb (p:=p) (names:=r) (q:=q) ha.2 h
theorem Inv.block (I:Inv X pins σ H3 s3) (S:CScope X scope cl N' cap) (hc:X.calm = true) (hex:∀ b ∈ ex,Bh X pins H3 b/\∃ o,s3.heap.get? b = some o) {h1:Heap} {tk:Nat}
  (hns:h1.Ns s3.heap.objs.size (fun _=>none)) (hk:∀ b o,s3.heap.get? b = some o->h1.get? b = some o) :
  Inv (cxC X scope cl N' pins ex s3 H3) [] (Ra cap σ) H3 { s3 with heap:=h1,toks:=tk }:=by
 have lt3:∀ b o,s3.heap.get? b = some o->b ≠ s3.heap.objs.size:=fun b o e=>Nat.ne_of_lt (Heap.lt_size e)
 have hcell:∀ x c,cl.lookup x = some c->∃ v,s3.heap.IsCell c v:=fun x c e=>I.cell x c (S.cin.get e)
 have hfree:H3 s3.heap.objs.size = none:=I.hok.fresh (Nat.le_refl _)
 refine ⟨⟨I.ok.mod,?_,I.ok.glob,I.ok.blt,Nat.le_refl _,fun x y c e1 e2=>I.ok.inj x y c (S.cin.get e1) (S.cin.get e2),fun x hx=>?_,fun x c h _=>absurd h Bool.false_ne_true,I.ok.hd,I.ok.frames,.inl rfl,fun b hb=>?_,I.bs,Nat.le_trans I.ok.bsz I.sz,fun b o e hb=>?_,fun b hb=>?_,I.stack,I.stkFree⟩,
  rfl,I.bare,Un.kept hk,⟨_,hns,fun i x v e1 e2 e3=>?_⟩,fun x c e=>?_,hfree,fun x c e=>I.freeC x c (S.cin.get e),fun p hp=>?_,I.hok.kept hk,?_⟩
 ·exact S.kind
 ·have q:∀ k,(relabel scope X.env).names.lookup x = some k->(!(k == .cell || k == .free) || (cl.lookup x).isSome) = true:=fun k e=>Cb (p:=fun _=>true) (q:=fun a k=>!(k == .cell || k == .free) || (cl.lookup a).isSome) S.has e
  have hx':(relabel scope X.env).names.lookup x = some .cell\/(relabel scope X.env).names.lookup x = some .free:=hx
  have:(cl.lookup x).isSome = true:=by
   rcases hx' with e | e
   ·exact q _ e
   ·exact q _ e
  exact Option.isSome_iff_exists.mp this
 ·obtain ⟨⟨_,_,_,_,f4,_⟩,o,e⟩:=hex b hb
  exact ⟨lt3 b o e,fun x c ec=>f4 x c (S.cin.get ec)⟩
 ·obtain ⟨⟨f0,f1,f2,f3,_⟩,_⟩:=hex b hb
  rcases f3 with f3 | f3
  ·exact I.ok.noex b o e f3
  ·have:=(I.ok.bs b o e).1
   exact absurd (Nat.lt_of_lt_of_le (Heap.lt_size this) f3) (Nat.lt_irrefl _)
 ·intro hf
  obtain ⟨⟨_,f1,f2,_⟩,_⟩:=hex b hb
  rcases List.mem_cons.mp (I.stkSub b hf) with z | z
  ·exact f1 z
  ·exact f2 z
 ·unfold Ra at e2
  rw [List.getElem?_map] at e2
  cases ec:cap[i]? with
  | none=>rw [ec] at e2; cases e2
  | some o =>
   rw [ec] at e2
   cases o with
   | none=>cases e2
   | some j =>
    have e2':(σ[j]?).join = some v:=Option.some.inj e2
    obtain ⟨c1,c2,c3,c4⟩:=S.caps.get e1 ec
    have ej:σ[j]? = some (some v):=by
     cases ej:σ[j]? with
     | none=>rw [ej] at e2'; cases e2'
     | some z=>rw [ej] at e2'; cases z with
      | none=>cases e2'
      | some z=>cases e2'; rfl
    obtain ⟨m,hn,hl⟩:=I.loc
    obtain ⟨u,r,l⟩:=hl j x v c1 ej (.inr (.inl c2))
    refine ⟨u,r,?_⟩
    rcases l with ⟨k,_⟩ | ⟨_,c,hc',hcell'⟩
    ·have:X.env.scope.names.lookup x = some .local:=k
     rw [c2] at this; cases this
    ·exact .inr ⟨.inl c3,c,c4.trans hc',let ⟨o,ho,hd⟩:=hcell'; ⟨o,hk _ _ ho,hd⟩⟩
 ·obtain ⟨v,o,ho,hd⟩:=hcell x c e
  exact ⟨v,o,hk _ _ ho,hd⟩
 ·have hp':p ∈ X.pn ++ pins:=by simpa [cxC] using hp
  obtain ⟨e,n,ne,nf,d⟩:=I.pin p hp'
  refine ⟨hk _ _ e,n,lt3 _ _ e,fun hf=>?_,d⟩
  rcases List.mem_cons.mp (I.stkSub p.1 hf) with z | z
  ·exact ne z
  ·exact nf z
 ·unfold Ra
  rw [List.length_map]
  exact S.caps.len
theorem Inv.unblock {σ':St} {H':Hp} {s':Shared} {h':Heap} (I:Inv X pins σ H3 s3) (hex:∀ b ∈ ex,Bh X pins H3 b) (J:Inv (cxC X scope cl N' pins ex s3 H3) [] σ' H' s') (hb:Heap.SameBut s3.heap.objs.size s'.heap h') :
  Inv X pins σ H' { s' with heap:=h' }:=by
 have hfr:H' s3.heap.objs.size = none:=J.free
 refine I.call' (ch:=ex) J.os ⟨fun b o e n h1 h2=>?_,fun b o e n h1 h2=>?_,fun b o e n h2=>?_,fun b o e h2=>?_,J.base.tups,J.base.frzs,J.base.tbls⟩ (fun b ob e=>?_) J.bare fun b hbx=>?_
 ·exact (hb.2 b (Nat.ne_of_lt (Heap.lt_size e))).trans (J.base.keep b o e n h1 h2)
 ·obtain ⟨sl,q⟩:=J.base.slot b o e n h1 h2
  exact ⟨sl,(hb.2 b (Nat.ne_of_lt (Heap.lt_size e))).trans q⟩
 ·exact J.base.free b o e n h2
 ·obtain ⟨o',q⟩:=J.base.there b o e h2
  exact ⟨o',(hb.2 b (Nat.ne_of_lt (Heap.lt_size e))).trans q⟩
 ·refine (J.hok b ob e).stay (fun c w' hc q=>(hb.2 c ?_).trans q) (fun _ q=>q) fun _ _ q=>q
  rintro rfl
  rcases hc with z | z
  ·rw [<-z,hfr] at e; cases e
  ·rw [hfr] at z; cases z
 ·obtain ⟨_,f1,_,f3,f4,f5⟩:=hex b hbx
  exact ⟨f3,f1,f4,f5⟩
end
end L2
namespace L2
open PySem PySem.Spec PyProof.Rows
noncomputable def Bo (e:Expr) (d:Nat) (iter tg:Expr) (ifs:List Expr) (emit:Sem Fin->Sem Fin) (it acc:Value) (env:Env):Sem Fin:=do
 standAt iter.pos
 match <-pyNext it with
 | none=>pure (.done .next)
 | some v =>
  letOwnedTupleGo tg it v
  assign tg env v
  let mut ok:=true
  for c in ifs do
   if ok then ok <-isTrue c env (eval c env)
  if ok then emit (again (.compLoop e d it acc env)) else again (.compLoop e d it acc env)
noncomputable def emL (elt:Expr) (acc:Value) (env:Env) (k:Sem Fin):Sem Fin:=(do let _ <-call (.builtin "list.append") [acc,<-eval elt env]:Sem Unit) >>= fun _=>k
noncomputable def emD (a b:Expr) (D:Addr) (env:Env) (k:Sem Fin):Sem Fin:=(do
   let kv <-eval a env
   let vv <-holding [kv] (eval b env)
   standAt { a.pos with endLine:=b.pos.endLine,endCol:=b.pos.endCol }
   holding [kv,vv] (dictSet D kv vv):Sem Unit) >>= fun _=>k
noncomputable def emS (elt:Expr) (acc:Value) (env:Env) (k:Sem Fin):Sem Fin:=(do let v <-eval elt env; standAt elt.pos; let _ <-call (.builtin "set.add") [acc,v]:Sem Unit) >>= fun _=>k
noncomputable def emN (e iter2:Expr) (d:Nat) (acc:Value) (env:Env) (k:Sem Fin):Sem Fin:=do
    let x <-eval iter2 env
    standAt iter2.pos
    let x <-foldedSetIterable iter2 env x
    let _ <-runOwn (.compStart e d (<-holding [x] (pyIter x)) acc env) env
    k
theorem Ca (elt tg iter:Expr) (ifs:List Expr) (scope:Scope) (pos:Pos) (it acc:Value) (env:Env) :
  compTurn (.ListComp elt [⟨tg,iter,ifs,0⟩] scope pos) 0 it acc env = Bo (.ListComp elt [⟨tg,iter,ifs,0⟩] scope pos) 0 iter tg ifs (emL elt acc env) it acc env:=rfl
theorem Lp (k v tg iter:Expr) (ifs:List Expr) (scope:Scope) (pos:Pos) (it:Value) (D:Addr) (env:Env) :
  compTurn (.DictComp k v [⟨tg,iter,ifs,0⟩] scope pos) 0 it (.ref D) env = Bo (.DictComp k v [⟨tg,iter,ifs,0⟩] scope pos) 0 iter tg ifs (emD k v D env) it (.ref D) env:=rfl
theorem Lb (elt tg iter tg2 iter2:Expr) (ifs ifs2:List Expr) (scope:Scope) (pos:Pos) (it acc:Value) (env:Env) :
  compTurn (.SetComp elt [⟨tg,iter,ifs,0⟩,⟨tg2,iter2,ifs2,0⟩] scope pos) 1 it acc env = Bo (.SetComp elt [⟨tg,iter,ifs,0⟩,⟨tg2,iter2,ifs2,0⟩] scope pos) 1 iter2 tg2 ifs2 (emS elt acc env) it acc env:=rfl
theorem Kx (elt tg iter tg2 iter2:Expr) (ifs ifs2:List Expr) (scope:Scope) (pos:Pos) (it acc:Value) (env:Env) :
  compTurn (.SetComp elt [⟨tg,iter,ifs,0⟩,⟨tg2,iter2,ifs2,0⟩] scope pos) 0 it acc env = Bo (.SetComp elt [⟨tg,iter,ifs,0⟩,⟨tg2,iter2,ifs2,0⟩] scope pos) 0 iter tg ifs
   (emN (.SetComp elt [⟨tg,iter,ifs,0⟩,⟨tg2,iter2,ifs2,0⟩] scope pos) iter2 1 acc env) it acc env:=rfl
noncomputable abbrev TEm:=St->Hp->(St->Hp->Prop)->Prop
noncomputable def PEm (X:Cx) (emit:Sem Fin->Sem Fin) (t:TEm):Prop :=
 ∀ (pins:List (Addr × Obj)) (s:Shared) (σ:St) (H:Hp) (Q:St->Hp->Prop) (k:Sem Fin) (F:Fin->Shared->Prop) (E:Value->Shared->Prop),Inv X pins σ H s->t σ H Q ->
  (∀ s' σ' H',Inv X pins σ' H' s'->Q σ' H'->wpAny (model X.prog X.w) X.A k F E s')->wpAny (model X.prog X.w) X.A (emit k) F E s
noncomputable def PTs (X:Cx) (ifs:List Expr) (t:TT):Prop :=
 ∀ (pins:List (Addr × Obj)) (s:Shared) (σ:St) (H:Hp) (Q:Bool->Hp->Prop),Inv X pins σ H s->t σ H Q ->
  wpAny (model X.prog X.w) X.A (forIn ifs true fun c r=>if r = true then do let ok <-isTrue c X.env (eval c X.env); pure (ForInStep.yield ok) else pure (ForInStep.yield r)) (TP X pins σ Q) X.xe s
noncomputable def Sd:TT:=fun _ H Q=>Q true H
theorem O9 {X:Cx}:PTs X [] Sd:=fun _ _ _ H _ I h=>wpAny_tests_nil ⟨H,I,h⟩
theorem Z7 {X:Cx} {c:Expr} {t:TT} (h:PT X c t):PTs X [c] t:=fun pins s σ H Q I q=>wpAny_tests_one (h pins s σ H Q I q)
noncomputable def Ha (g:TG) (tc:TT) (em:TEm) (J:It) (σ:St) (H:Hp) (Q:St->Hp->Prop):Prop :=
 ∃ W:Nat->Nat->St->Hp->Prop,(∃ m,W 0 m σ H)/\∀ i m σ H,W i m σ H->(J.stop i H/\Q σ H)\/(J.go i H/\∀ x H',J.yld i H x H'->g x σ H' fun σ2 H2=>tc σ2 H2 fun b H3 =>
  if b = true then em σ2 H3 fun σ3 H4=>∃ m',m' < m/\W (i + 1) m' σ3 H4 else ∃ m',m' < m/\W (i + 1) m' σ2 H3)
section
variable {X:Cx} {e tg iter:Expr} {d:Nat} {ifs:List Expr} {emit:Sem Fin->Sem Fin} {it:Addr} {acc:Value} {g:TG} {tc:TT} {em:TEm} {J:It} {fp:List Addr} {tn:Nat->Heap->Prop} {R:Result->Shared->Prop}
theorem S7 (hun:X.A.under (.compLoop e d (.ref it) acc X.env) = X.A) (hden:(model X.prog X.w).den (.compLoop e d (.ref it) acc X.env) = (compTurn e d (.ref it) acc X.env).onRaise (fun x=>do noteFrame x X.env; theTreesLotGoes x)) (hc:X.calm = true) (hxe:X.xe = fun _ _=>False) (hct:compTurn e d (.ref it) acc X.env = Bo e d iter tg ifs emit (.ref it) acc X.env) (hg:PG X tg g) (ht:PTs X ifs tc) (hem:PEm X emit em)
  (T:Turn X.prog X.w X.K tg J fp it tn) {pins:List (Addr × Obj)} {s:Shared} {σ:St} {H:Hp} {Q:St->Hp->Prop} (I:Inv X pins σ H s) (st:tn 0 s.heap) (hf:∀ b ∈ fp,Bh X pins H b) (h:Ha g tc em J σ H Q)
  (hR:∀ s' σ' H',Inv X pins σ' H' s'->Q σ' H'->R (.ok .next) s'):codeAny (model X.prog X.w) X.A (.compLoop e d (.ref it) acc X.env) R s:=by
 obtain ⟨W,⟨m0,w0⟩,turn⟩:=h
 have stat:∀ {H':Hp},(∀ b ∈ fp,H' b = none)->∀ b ∈ fp,Bh X pins H' b:=fun hn b hb=>⟨hn b hb,(hf b hb).2⟩
 have no:∀ {α:Type} {m:Sem α} {P:α->Shared->Prop} {E:Value->Shared->Prop} {s:Shared},wpAny (model X.prog X.w) X.A m P X.xe s->wpAny (model X.prog X.w) X.A m P E s:=fun q=>by
  rw [hxe] at q
  exact wpAny_mono q (fun _ _ z=>z) fun _ _ z=>z.elim
 refine codeAny_loop rfl (fun n s'=>∃ i σ' H',Inv X pins σ' H' s'/\tn i s'.heap/\(∀ b ∈ fp,H' b = none)/\W i n σ' H') (fun n s3 hI=>?_) m0 ⟨0,σ,H,I,st,fun b hb=>(hf b hb).1,w0⟩
 obtain ⟨i,σ3,H3,I3,st3,fr3,w3⟩:=hI
 rw [hun,hden]
 refine wpAny_noted ?_
 rw [hct]
 unfold Bo
 refine wpAny_bind (wpAny_standAt (wpAny_bind ?_))
 rcases turn i n σ3 H3 w3 with ⟨stop,qn⟩ | ⟨go,step⟩
 ·refine wpAny_mono (T.done X rfl rfl rfl hc i pins s3 σ3 H3 _ I3 (stat fr3) st3 stop) (fun r s4 ⟨hr,I4⟩=>?_) fun _ _ z=>z
  subst hr
  exact wpAny_pure (hR s4 σ3 H3 I4 qn)
 ·refine wpAny_mono (T.item X rfl rfl rfl hc i pins s3 σ3 H3 _ I3 (stat fr3) st3 go) (fun r s4 ⟨u,hr,h4⟩=>?_) fun _ _ z=>z
  subst hr
  refine wpAny_bind (wpAny_mono h4 (fun _ s5 ⟨x,H5,I5,r5,y5,st5,fr5⟩=>?_) fun _ _ z=>z)
  have I5':=I5.pinned (stat fr5) (T.obj _ _ st5)
  have again:∀ {σ7:St} {H7:Hp} {s7:Shared},Inv X (pins ++ Es fp s5.heap) σ7 H7 s7->(∃ m',m' < n/\W (i + 1) m' σ7 H7)->∃ m,m < n/\∃ i σ' H',Inv X pins σ' H' s7/\tn i s7.heap/\(∀ b ∈ fp,H' b = none)/\W i m σ' H':=fun {σ7 H7 s7} I7 n7=>by
   obtain ⟨m',hm,w7⟩:=n7
   refine ⟨m',hm,i + 1,σ7,H7,I7.unpinned,T.keep _ _ _ st5 fun b hb o e=>(I7.pin (b,o) (List.mem_append_right _ (List.mem_append_right _ (T3 hb e)))).1,fun b hb=>?_,w7⟩
   obtain ⟨o,e,d⟩:=T.obj _ _ st5 b hb
   exact (I7.pin (b,o) (List.mem_append_right _ (List.mem_append_right _ (T3 hb e)))).2.1
  refine wpAny_bind (wpAny_mono (no (hg _ s5 σ3 H5 x u _ I5' r5 (step x H5 y5))) (fun _ s6 ⟨σ6,H6,I6,q6⟩=>?_) fun _ _ z=>z)
  refine wpAny_bind (wpAny_mono (no (ht _ s6 σ6 H6 _ I6 q6)) (fun ok s7 ⟨H7,I7,q7⟩=>?_) fun _ _ z=>z)
  cases ok with
  | false=>exact wpAny_pure ⟨rfl,again I7 q7⟩
  | true =>
   exact hem _ s7 σ6 H7 _ _ _ _ I7 q7 fun s8 σ8 H8 I8 q8=>wpAny_pure ⟨rfl,again I8 q8⟩
theorem Y6 (hun:X.A.under (.compStart e d (.ref it) acc X.env) = X.A) (hden:(model X.prog X.w).den (.compStart e d (.ref it) acc X.env) = (compStart e d (.ref it) acc X.env).onRaise (fun x=>do noteFrame x X.env; standAt theWindowsPlace)) {gs:List Comprehension} (hgs:clausesOf e = gs) (hd:gs[d]? = some ⟨tg,iter,ifs,0⟩) {s:Shared} (T:Turn X.prog X.w X.K tg J fp it tn) (st:tn 0 s.heap)
  (h:codeAny (model X.prog X.w) X.A (.compLoop e d (.ref it) acc X.env) R s):codeAny (model X.prog X.w) X.A (.compStart e d (.ref it) acc X.env) R s:=by
 refine codeAny_of_tree ?_
 rw [hun,hden]
 refine wpAny_notedAt ?_
 unfold compStart
 rw [hgs,hd]
 show wpAny _ X.A (ask >>= _) _ _ s
 refine wpAny_bind (wpAny_askSetting (wpAny_ite ?_))
 have h1:=T.self X.A 0 s (fun it' s'=>codeAny (model X.prog X.w) X.A (.compLoop e d it' acc X.env) R s') (notedBy (model X.prog X.w) X.A X.env fun x s'=>R (.error x) s') st h
 split
 ·first
   | exact wpAny_bind (wpAny_pure (wpAny_pure (And.intro rfl h)))
   | exact wpAny_pure (And.intro rfl h)
 ·first
   | exact wpAny_bind (wpAny_rule (wpAny_bind (wpAny_standAt (wpAny_bind (wpAny_mono h1 (fun it' s' h'=>wpAny_pure (And.intro rfl h')) fun _ _ x=>x)))))
   | (refine wpAny_bind (wpAny_rule ?_); show wpAny _ _ (standAt iter.pos >>= _) _ _ s; exact wpAny_bind (wpAny_standAt (wpAny_bind (wpAny_mono h1 (fun it' s' h'=>wpAny_pure (And.intro rfl h')) fun _ _ x=>x))))
end
section
variable {X:Cx} {tg iter:Expr} {ifs:List Expr} {g:TG} {tc:TT} {em:TEm} {scope:Scope} {cl:List (Str × Addr)} {N':List Str} {cap:List (Option Nat)} {pos:Pos} {wi:TI}
noncomputable def Fc (wi:TI) (o:Addr->HO) (cap:List (Option Nat)) (lp:Addr->It->St->Hp->(St->Hp->Prop)->Prop):TE:=fun σ H Q=>wi σ H fun J H1=>∀ D,H1 D = none->lp D J (Ra cap σ) (upd H1 D (o D)) fun _ H2=>Q (.ref D) H2
theorem Cq {e:Expr} {gs:List Comprehension} {newAcc:Sem Value} {p2:Pos} (hcl:clausesOf e = ⟨tg,iter,ifs,0⟩ :: gs) (o:Addr->HO) (hs:∀ x,foldedSetIterable iter X.env x = pure x) (S:CScope X scope cl N' cap) (hc:X.calm = true) (hi:PI X tg iter wi)
  {lp:Addr->It->St->Hp->(St->Hp->Prop)->Prop}
  (hnew:∀ (pins:List (Addr × Obj)) (s:Shared) (σ:St) (H:Hp) (Q:Value->Shared->Prop) (E:Value->Shared->Prop),Inv X pins σ H s->(∀ s',Inv X pins σ (upd H s.heap.objs.size (o s.heap.objs.size)) s'->(∀ b ob,s.heap.get? b = some ob->s'.heap.get? b = some ob)->Q (.ref s.heap.objs.size) s')->wpAny (model X.prog X.w) X.A newAcc Q E s)
  (hlp:∀ (pins:List (Addr × Obj)) (ex:List Addr) (s3:Shared) (H3:Hp) (D it:Addr) (fp:List Addr) (tn:Nat->Heap->Prop) (J:It) (σ:St) (s:Shared) (H:Hp) (Q:St->Hp->Prop) (R:Result->Shared->Prop),
   Turn X.prog X.w X.K tg J fp it tn->Inv (cxC X scope cl N' pins ex s3 H3) [] σ H s->tn 0 s.heap->(∀ b ∈ fp,Bh (cxC X scope cl N' pins ex s3 H3) [] H b)->lp D J σ H Q ->
   (∀ s' σ' H',Inv (cxC X scope cl N' pins ex s3 H3) [] σ' H' s'->Q σ' H'->R (.ok .next) s') ->
   codeAny (model X.prog X.w) X.A (.compLoop e 0 (.ref it) (.ref D) (compEnvC scope cl s3.heap.objs.size X.env)) R s)
  (hun:∀ it D env,X.A.under (.compStart e 0 (.ref it) (.ref D) env) = X.A) (hden:∀ it D env,(model X.prog X.w).den (.compStart e 0 (.ref it) (.ref D) env) = (compStart e 0 (.ref it) (.ref D) env).onRaise (fun x=>do noteFrame x env; standAt theWindowsPlace))
  (hev:∀ E Q s,wpAny (model X.prog X.w) X.A (comprehension e scope X.env p2 newAcc false (eval iter X.env)) Q E s->wpAny (model X.prog X.w) X.A (eval e X.env) Q E s) :
  PE X e (Fc wi o cap lp):=by
 intro pins s σ H Q I h
 refine hev _ _ _ (wpAny_comprehension_free (use:=none) hcl hs S.clos S.kind S.loc (thn (hi pins s σ H _ I h) fun v s1 h1=>thn h1 fun itv s2 h2=>?_))
 obtain ⟨it,fp,tn,J,H2,eit,I2,T,st2,f2,R2⟩:=h2
 subst eit
 refine hnew pins s2 σ H2 _ _ I2 fun s3 I3 k3=>?_
 have hD:H2 s2.heap.objs.size = none:=I2.hok.fresh (Nat.le_refl _)
 have fok:∀ b ∈ fp,Bh X pins (upd H2 s2.heap.objs.size (o s2.heap.objs.size)) b/\∃ ob,s3.heap.get? b = some ob:=fun b hb=>by
  obtain ⟨ob,e,_⟩:=T.obj _ _ st2 b hb
  obtain ⟨f0,fr⟩:=f2 b hb
  exact ⟨⟨by rw [B2 (Nat.ne_of_lt (Heap.lt_size e))]; exact f0,fr⟩,ob,k3 b ob e⟩
 refine wpAny_newFunctionEnv S.nocell (by intro y hy; simp at hy) (fun h1 hns hsb=>?_) S.kind
 have hk:∀ b ob,s3.heap.get? b = some ob->h1.get? b = some ob:=fun b ob e=>(hsb.2 b (Nat.ne_of_lt (Heap.lt_size e))).trans (Heap.get?_push_of_some _ e)
 have I4:Inv (cxC X scope cl N' pins fp s3 (upd H2 s2.heap.objs.size (o s2.heap.objs.size))) [] (Ra cap σ) (upd H2 s2.heap.objs.size (o s2.heap.objs.size)) { s3 with heap:=h1,toks:=s3.toks + ([]:List (Str × Value)).length } :=
  I3.block S hc fok hns hk
 have st4:tn 0 h1:=T.keep 0 _ _ st2 fun b hb ob e=>hk b ob (k3 b ob e)
 refine Y6 (X:=cxC X scope cl N' pins fp s3 (upd H2 s2.heap.objs.size (o s2.heap.objs.size))) (gs:=⟨tg,iter,ifs,0⟩ :: gs) (e:=e) (d:=0) (tg:=tg) (iter:=iter) (ifs:=ifs) (hun _ _ _) (hden _ _ _) hcl rfl T st4 ?_
 refine hlp pins fp s3 _ s2.heap.objs.size it fp tn J (Ra cap σ) _ _ _ _ T I4 st4 (fun b hb=>?_) (R2 _ hD) fun s' σ' H' I' q'=>?_
 ·obtain ⟨⟨f0,f1,f2',f3,f4,f5⟩,ob,eo⟩:=fok b hb
  refine ⟨f0,Nat.ne_of_lt (Heap.lt_size eo),fun hf=>?_,.inl hb,fun x c e=>f4 x c (S.cin.get e),fun p hp=>f5 p (by simpa [cxC] using hp)⟩
  rcases List.mem_cons.mp (I3.stkSub b hf) with z | z
  ·exact f1 z
  ·exact f2' z
 ·obtain ⟨m,hn,_⟩:=I'.loc
  exact ⟨m,hn,fun h' hb=>⟨.ref _,H',I3.unblock (fun b hb=>(fok b hb).1) I' hb,rfl,q'⟩⟩
end
end L2
namespace L2
open PySem PySem.Spec PyProof.Rows
section
variable {X:Cx} {tg iter elt:Expr} {ifs:List Expr} {g:TG} {tc:TT} {te:TE} {scope:Scope} {cl:List (Str × Addr)} {N':List Str} {cap:List (Option Nat)} {pos:Pos} {wi:TI}
noncomputable def Lw (D:Addr) (te:TE):TEm:=fun σ H Q=>te σ H fun y H1=>∃ ys,H1 D = some (.lst ys)/\ys.length < sizeLine/\Q σ (upd H1 D (.lst (ys ++ [y])))
theorem Bk {α:Type} {X:Cx} (hxe:X.xe = fun _ _=>False) {m:Sem α} {P:α->Shared->Prop} {E:Value->Shared->Prop} {s:Shared} (q:wpAny (model X.prog X.w) X.A m P X.xe s):wpAny (model X.prog X.w) X.A m P E s:=by
 rw [hxe] at q
 exact wpAny_mono q (fun _ _ z=>z) fun _ _ z=>z.elim
theorem Jo {D:Addr} (hxe:X.xe = fun _ _=>False) (he:PE X elt te):PEm X (emL elt (.ref D) X.env) (Lw D te):=by
 intro pins s σ H Q k F E I h hk
 unfold emL
 refine wpAny_bind (wpAny_bind (wpAny_mono (Bk hxe (he pins s σ H _ I h)) (fun u s1 ⟨y,H1,I1,r1,ys,e1,z1,q1⟩=>?_) fun _ _ z=>z))
 refine wpAny_bind (wpAny_mono (Bk hxe (E8 pins s1 σ H1 (.ref D) [y] (.ref D) [u] (fun v H2=>v = .non/\Q σ H2) I1 rfl (.cons r1 .nil) ⟨D,ys,y,rfl,rfl,e1,z1,rfl,q1⟩)) (fun v s2 ⟨y2,H2,I2,r2,_,q2⟩=>?_) fun _ _ z=>z)
 exact wpAny_pure (hk s2 σ H2 I2 q2)
theorem Aw (S:CScope X scope cl N' cap) (hc:X.calm = true) (hi:PI X tg iter wi)
  (hb:∀ (pins:List (Addr × Obj)) (ex:List Addr) (s3:Shared) (H3:Hp),PG (cxC X scope cl N' pins ex s3 H3) tg g/\PTs (cxC X scope cl N' pins ex s3 H3) ifs tc/\PE (cxC X scope cl N' pins ex s3 H3) elt te)
  (hs:∀ x,foldedSetIterable iter X.env x = pure x:=by intro _; rfl) :
  PE X (.ListComp elt [⟨tg,iter,ifs,0⟩] scope pos) (Fc wi (fun _=>.lst []) cap fun D J σ H Q=>Ha g tc (Lw D te) J σ H Q):=by
 refine Cq (newAcc:=newList []) (p2:=firstIterPos [⟨tg,iter,ifs,0⟩] pos) rfl (fun _=>.lst []) hs S hc hi (fun pins s σ H Q E I h=>?_) (fun pins ex s3 H3 D it fp tn J σ s H Q R T I st hf h hR=>?_) (fun _ _ _=>rfl) (fun _ _ _=>rfl) (fun E Q s h=>h)
 ·refine wpAny_newList ?_
  exact h _ (I.lnew (t':=s.toks) (its:=[]) .nil (Nat.zero_le _)) fun b ob e=>Heap.get?_push_of_some _ e
 ·obtain ⟨b1,b2,b3⟩:=hb pins ex s3 H3
  exact S7 (X:=cxC X scope cl N' pins ex s3 H3) rfl rfl hc rfl (Ca elt tg iter ifs scope pos _ _ _) b1 b2 (Jo rfl b3) T I st hf h hR
noncomputable def Ve (D:Addr) (tk tv:TE):TEm:=fun σ H Q=>tk σ H fun y H1=>tv σ H1 fun v H2=>∃ kvs k,H2 D = some (.dK kvs)/\y = kV k/\kvs.length < sizeLine/\Q σ (upd H2 D (.dK (Mg kvs k v)))
theorem Rc {D:Addr} {a b:Expr} {ta tb:TE} (hxe:X.xe = fun _ _=>False) (ha:PE X a ta) (hb:PE X b tb):PEm X (emD a b D X.env) (Ve D ta tb):=by
 intro pins s σ H Q k F E I h hk
 unfold emD
 refine wpAny_bind (wpAny_bind (wpAny_mono (Bk hxe (ha pins s σ H _ I h)) (fun u s1 ⟨y,H1,I1,r1,q1⟩=>?_) fun _ _ z=>z))
 refine wpAny_bind (wpAny_holding (wpAny_mono (Bk hxe (hb pins s1 σ H1 _ I1 q1)) (fun r s2 ⟨v,H2,I2,rv,kvs,kk,e,ey,l,q2⟩=>?_) fun _ _ z=>z))
 refine wpAny_bind (wpAny_standAt (wpAny_holding ?_))
 subst ey
 obtain ⟨z,hd,vs,rel,dd⟩:=zAn I2.hok e
 have hz:vs.length<=sizeLine:=by rw [<-rel.length]; exact z
 have hl:(Mg kvs kk v).length<=sizeLine:=by have:=Ae kvs kk v; omega
 refine wpAny_dictSet_pairs (hsz:=hz) (Ow r1) dd fun h' dd' hs=>?_
 have he:∃ q,h'.get? D = some q:=let ⟨q,_,_,hq,_⟩:=dd'; ⟨q,hq⟩
 exact hk _ σ _ (Wb (t':=s2.toks + 1) I2 (by rw [e]; exact True.intro) hs he (Yk hl hd (rel.put kk rv) dd')) q2
theorem Xn {a b:Expr} {ta tb:TE} (S:CScope X scope cl N' cap) (hc:X.calm = true) (hi:PI X tg iter wi)
  (hb:∀ (pins:List (Addr × Obj)) (ex:List Addr) (s3:Shared) (H3:Hp),PG (cxC X scope cl N' pins ex s3 H3) tg g/\PTs (cxC X scope cl N' pins ex s3 H3) ifs tc/\PE (cxC X scope cl N' pins ex s3 H3) a ta/\PE (cxC X scope cl N' pins ex s3 H3) b tb)
  (hs:∀ x,foldedSetIterable iter X.env x = pure x:=by intro _; rfl) :
  PE X (.DictComp a b [⟨tg,iter,ifs,0⟩] scope pos) (Fc wi (fun _=>.dK []) cap fun D J σ H Q=>Ha g tc (Ve D ta tb) J σ H Q):=by
 refine Cq (newAcc:=newDict) (p2:=firstIterPos [⟨tg,iter,ifs,0⟩] pos) rfl (fun _=>.dK []) hs S hc hi (fun pins s σ H Q E I h=>?_) (fun pins ex s3 H3 D it fp tn J σ s H Q R T I st hf h hR=>?_) (fun _ _ _=>rfl) (fun _ _ _=>rfl) (fun E Q s h=>h)
 ·refine wpAny_newObj_type ?_
  exact h _ (I.laid (a:=s.heap.objs.size) (o:=.dK []) (t':=s.toks) (fun _ _ q=>Heap.get?_push_of_some _ q) (Nat.le_refl _) (Se s.heap I.big)) fun b ob e=>Heap.get?_push_of_some _ e
 ·obtain ⟨b1,b2,b3,b4⟩:=hb pins ex s3 H3
  exact S7 (X:=cxC X scope cl N' pins ex s3 H3) rfl rfl hc rfl (Lp a b tg iter ifs scope pos _ _ _) b1 b2 (Rc rfl b3 b4) T I st hf h hR
end
instance:LawfulBEq Key where
 rfl {a}:=by cases a with
  | inl i=>show (i == i) = true; simp
  | inr x=>show (x == x) = true; simp
 eq_of_beq {a b} h:=by
  cases a with
  | inl i=>cases b with
   | inl j=>exact congrArg Sum.inl (eq_of_beq (show (i == j) = true from h))
   | inr j=>exact absurd h (by intro z; cases z)
  | inr i=>cases b with
   | inl j=>exact absurd h (by intro z; cases z)
   | inr j=>exact congrArg Sum.inr (eq_of_beq (show (i == j) = true from h))
noncomputable def Lz (P:Program) (w:World) (a:Addr) (l:List Key):HO:=.ext fun h=>h.SetOf (C2 P w) a (fun k=>decide (k ∈ l)) l.length
section
variable {X:Cx} {pins:List (Addr × Obj)} {σ:St} {H:Hp} {s:Shared} {a:Addr} {l:List Key}
theorem Ze {P:Program} {w:World} {H:Hp} {h:Heap} (z:h.SetOf (C2 P w) a (fun k=>decide (k ∈ l)) l.length):ObjOk P w H h a (Lz P w a l) :=
 ⟨z,let ⟨o,_,_,_,e,_⟩:=z; ⟨o,e⟩,fun h1 h2 ⟨o,es,ep,t,e,r⟩ k=>⟨o,es,ep,t,k o e,r⟩⟩
theorem Inv.set (I:Inv X pins σ H s) (e:H a = some (Lz X.prog X.w a l)):s.heap.SetOf (C2 X.prog X.w) a (fun k=>decide (k ∈ l)) l.length:=by
 obtain ⟨z,_⟩:=(show ObjOk X.prog X.w H s.heap a (Lz X.prog X.w a l) from I.hok a _ e)
 exact z
theorem Kc {k:Key} {u:Value} (r:RelV (kV k) u):u.scannable = true:=by
 cases k with
 | inl i=>obtain ⟨t,rfl⟩:=r; rfl
 | inr x=>obtain ⟨t,rfl⟩:=r; rfl
noncomputable def Zz (l:List Key) (k:Key):List Key:=if k ∈ l then l else l ++ [k]
theorem Hj {P:Program} {w:World} {h:Heap} {S S':Key->Bool} {n n':Nat} (z:h.SetOf (C2 P w) a S n) (e:∀ k,S' k = S k) (en:n' = n):h.SetOf (C2 P w) a S' n':=by
 have:S' = S:=funext e
 subst this; subst en; exact z
theorem Oe:E9 X (.type "set") (fun xs H Q=>xs = []/\∀ p,H p = none->Q (.ref p) (upd H p (Lz X.prog X.w p []))):=by
 intro pins s σ H xs us Q I r h
 obtain ⟨rfl,q⟩:=h
 cases r
 refine call_set_0 fun led=>⟨.ref s.heap.objs.size,_,I.laid (t':=s.toks) (fun b o e=>Heap.get?_push_of_some _ e) (Nat.le_refl _) (Ze ?_),rfl,q _ (I.hok.fresh (Nat.le_refl _))⟩
 exact (setObjOf_fresh led).setOf (Heap.get?_push_size _ rfl) (by decide)
noncomputable def Yj (P:Program) (w:World):V->List V->Hp->VK->Prop:=fun x vs H Q=>∃ a l k,x = .ref a/\vs = [kV k]/\H a = some (Lz P w a l)/\l.length + 1 < 4096/\Q .non (upd H a (Lz P w a (Zz l k)))
theorem Zm:MtM X "set.add" (Yj X.prog X.w):=by
 intro pins s σ H x vs v us Q I rx rv h
 obtain ⟨a,l,k,rfl,rfl,hH,hz,q⟩:=h
 cases rx
 obtain ⟨u,rfl,ru⟩:=rv.one
 refine call_set_add (Ow ru) (Kc ru) (I.set hH) hz fun h' hs z=>?_
 refine ⟨.non,_,I.write (x:=a) (e:=a) (t':=s.toks + 1) (by rw [hH]; exact True.intro) (.inl rfl) (fun b q hb e=>(hs.2 b hb).trans e) (let ⟨o,_,_,_,e,_⟩:=z; ⟨o,e⟩) (Ze (Hj z (fun k'=>?_) ?_)),rfl,q⟩
 ·unfold Zz
  by_cases e:k ∈ l
  ·rw [if_pos e]
   by_cases ek:k' = k
   ·subst ek; simp [e]
   ·simp [ek]
  ·rw [if_neg e]
   simp
 ·unfold Zz
  by_cases e:k ∈ l
  ·rw [if_pos e]; simp [e]
  ·rw [if_neg e]; simp [e]
noncomputable def zBt (P:Program) (w:World) (neg:Bool):R2:=fun x y H Q=>∃ a l k,y = .ref a/\x = kV k/\H a = some (Lz P w a l)/\Q (.bl (if neg then !decide (k ∈ l) else decide (k ∈ l))) H
theorem Mu:OpR X (compareOp .In) (zBt X.prog X.w false):=by
 intro pins s σ H x y v u Q I rx ry h
 obtain ⟨a,l,k,rfl,rfl,hH,q⟩:=h
 cases ry
 exact wpAny_inSet_of (Ow rx) (Kc rx) (I.set hH) ⟨.bl (decide (k ∈ l)),H,I.tok _,rfl,q⟩
end
section
variable {X:Cx} {tg iter elt tg2 iter2:Expr} {g g2:TG} {tc tc2:TT} {te:TE} {ifs ifs2:List Expr} {scope:Scope} {cl:List (Str × Addr)} {N':List Str} {cap:List (Option Nat)} {pos:Pos} {wi wi2:TI}
noncomputable def zAk (wi:TI) (lp:It->St->Hp->(St->Hp->Prop)->Prop):TEm:=fun σ H Q=>wi σ H fun J H1=>lp J σ H1 Q
end
end L2
namespace L2
open PySem PySem.Spec PyProof.Rows
noncomputable def Its (x:Str):It:=⟨fun i _=>i < x.cps.size,fun i H v H'=>H' = H/\∃ c,x.cps[i]? = some c/\v = .str ⟨#[c]⟩,fun i _=>i = x.cps.size⟩
theorem Jg {P:Program} {w:World} {K:PySem.W.Frag} {tg:Expr} (it:Addr) (x:Str) (t:Tok) (ty:String) (hty:["enumerate", "zip", "dict_itemiterator", "dict_reverseitemiterator", "odict_iterator", "itertools.zip_longest", "itertools.pairwise"].contains ty = false)
  (W:∀ A':Around,A'.handled = none->Walks P w A' it [it] [it] x.cps.size (SignAt x) (fun i h=>h.IsStrIter it ty x t i))
  (hself:∀ (A:Around) (i:Nat) (s:Shared) (Q:Value->Shared->Prop) (E:Value->Shared->Prop),s.heap.IsStrIter it ty x t i->Q (.ref it) s->wpAny (model P w) A (pyIter (.ref it)) Q E s):Turn P w K tg (Its x) [it] it (fun i h=>h.IsStrIter it ty x t i) where
 mem:=by simp
 obj:=fun i h st b hb=>by
  have e:b = it:=by simpa using hb
  subst e
  obtain ⟨o,e,c,d⟩:=st
  exact ⟨o,e,fun v z=>by rw [d] at z; cases z⟩
 keep:=fun i h h' st k=>let ⟨o,e,r⟩:=st; ⟨o,k it (by simp) o e,r⟩
 item:=by
  intro X hP hw hK hc i pins s σ H E I hf st hg
  subst hP hw hK
  obtain ⟨f0,f1,f2,f3,f4,f5⟩:=hf it (by simp)
  refine (W X.A (I.ok.hd hc)).item i s _ _ hg st fun v h' tk hv st' k=>?_
  obtain ⟨c,u,ec,ev⟩:=hv
  have I1:Inv X pins σ H { s with heap:=h',toks:=tk }:=I.turned (fun b o hb e=>k b o (by simpa using hb) e) f0 f1 f3 f4 f5
  obtain ⟨o,e,c',d⟩:=id st'
  exact ⟨v,rfl,Qi (s:={ s with heap:=h',toks:=tk }) e c' d hty ⟨.str ⟨#[c]⟩,H,I1,⟨u,ev⟩,⟨rfl,c,ec,rfl⟩,st',fun b hb=>(hf b hb).1⟩⟩
 done:=by
  intro X hP hw hK hc i pins s σ H E I hf st hg
  subst hP hw hK
  obtain ⟨f0,f1,f2,f3,f4,f5⟩:=hf it (by simp)
  have hg':i = x.cps.size:=hg
  subst hg'
  exact (W X.A (I.ok.hd hc)).done s _ _ st fun h' tk k=>⟨rfl,I.turned (fun b o hb e=>k b o (by simpa using hb) e) f0 f1 f3 f4 f5⟩
 self:=fun A i s Q E st h=>hself A i s Q E st h
section
variable {X:Cx} {tg:Expr}
noncomputable def zCj (te:TE):TI:=fun σ H R=>te σ H fun x H1=>∃ z,x = .str z/\R (Its z) H1
theorem Xb {l:Expr} {tl:TE} (hl:PE X l tl):PI X tg l (zCj tl):=by
 intro pins s σ H R I h
 refine thn (hl pins s σ H _ I h) fun v s1 ⟨x,H1,I1,r1,q1⟩=>?_
 obtain ⟨z,e,q⟩:=q1
 subst e
 obtain ⟨t,rfl⟩:=r1
 have fin:∀ (o:Obj) (ty:String),o.cls = .type ty->o.data = .fields #[.str z t,.int (0:Nat) 0]->o.isFreed = false->Turn X.prog X.w X.K tg (Its z) [s1.heap.objs.size] s1.heap.objs.size (fun i h=>h.IsStrIter s1.heap.objs.size ty z t i) ->
   PIE X pins σ tg R (.ref s1.heap.objs.size) { s1 with heap:=s1.heap.push o }:=fun o ty c d hf T=>by
  refine ⟨s1.heap.objs.size,[s1.heap.objs.size],_,_,H1,rfl,I1.kept (t':=s1.toks) fun b o e=>Heap.get?_push_of_some _ e,T,⟨o,Heap.get?_push_size _ hf,c,d⟩,fun b hb=>?_,q⟩
  have e:b = s1.heap.objs.size:=by simpa using hb
  subst e
  exact I1.fpOk (Nat.le_refl _) (I1.hok.fresh (Nat.le_refl _))
 cases ha:z.cps.all (· < 128)
 ·exact wpAny_pyIter_wide ha (fin _ _ rfl rfl rfl (Jg _ z t "str_iterator" (by decide) (fun A' hA=>Walks.strWide hA _ z t) fun A i s Q E st h=>wpAny_pyIter_striter_wide st h))
 ·exact wpAny_pyIter_ascii ha (fin _ _ rfl rfl rfl (Jg _ z t "str_ascii_iterator" (by decide) (fun A' hA=>Walks.strAscii hA _ z t) fun A i s Q E st h=>wpAny_pyIter_striter_ascii st h))
end
section
variable {X:Cx}
theorem Qq (hc:X.calm = true):E9 X (.builtin "all") (fun xs H Q=>∃ (p:Addr) (bs:List Bool),xs = [.ref p]/\SqL X.K H p (bs.map V.bl)/\Q (.bl (bs.all id)) H):=by
 intro pins s σ H xs us Q I r h
 obtain ⟨p,bs,rfl,hq,q⟩:=h
 obtain ⟨u,rfl,ru⟩:=X1 r
 cases ru
 obtain ⟨its,rv,pl,hz⟩:=I.list hq
 refine call_all_walk (wpAny_pyIter_list pl.isList ?_)
 have hne:p ≠ s.heap.objs.size:=by
  obtain ⟨o,n,e,_⟩:=pl
  exact Nat.ne_of_lt (Heap.lt_size e)
 refine ⟨s.heap.objs.size,_,_,_,_,_,fun i=>bs.getD i true,rfl,Walks.list (A:=X.A.in1) (show X.A.in1.handled = none from I.ok.hd hc) _ p hne its.toArray,⟨⟨_,Heap.get?_push_size _ rfl,rfl,rfl⟩,?_⟩,fun i v s' Q' E' hv q'=>?_,fun h' tk k=>?_⟩
 ·obtain ⟨o,n,e,c,d,e2⟩:=pl
  exact ⟨o,Heap.get?_push_of_some _ e,c,n,e2⟩
 ·have hb:(bs.map V.bl)[i]? = some (V.bl (bs.getD i true))/\RelV (V.bl (bs.getD i true)) v:=by
   have hv':its[i]? = some v:=by simpa using hv
   have hi:i < its.length:=(List.getElem?_eq_some_iff.mp hv').1
   have hl:=rv.length
   rw [List.length_map] at hl
   have e:(bs.map V.bl)[i]? = some (V.bl (bs.getD i true)):=by
    rw [List.getElem?_map,List.getElem?_eq_getElem (by omega)]
    simp [List.getD_eq_getElem?_getD,List.getElem?_eq_getElem (show i < bs.length by omega)]
   obtain ⟨u,hu,ru⟩:=rv.get e
   rw [hv'] at hu
   cases hu
   exact ⟨e,ru⟩
  cases hb.2
  exact wpAny_truthy_bool q'
 ·have hl:=rv.length
  rw [List.length_map] at hl
  have e:(List.range its.toArray.size).all (fun i=>bs.getD i true) = bs.all id:=by
   rw [List.size_toArray,<-hl]
   rw [Bool.eq_iff_iff,List.all_eq_true,List.all_eq_true]
   constructor
   ·intro z b hb
    obtain ⟨i,hi,rfl⟩:=List.mem_iff_getElem.mp hb
    have:=z i (List.mem_range.mpr hi)
    simpa [List.getD_eq_getElem?_getD,List.getElem?_eq_getElem hi] using this
   ·intro z i hi
    have hi':=List.mem_range.mp hi
    have:=z bs[i] (List.getElem_mem hi')
    simpa [List.getD_eq_getElem?_getD,List.getElem?_eq_getElem hi'] using this
  rw [e]
  exact ⟨.bl (bs.all id),H,I.kept fun b o eb=>k b o (by
   intro hb
   have:b = s.heap.objs.size:=by simpa using hb
   exact absurd (Heap.lt_size eb) (by rw [this]; exact Nat.lt_irrefl _)) (Heap.get?_push_of_some _ eb),rfl,q⟩
theorem Y2:∀ {ss:List Str} {us:List Value},Vals (ss.map V.str) us->StrsAre us ss
 | [],_,.nil=>.nil
 | _ :: _,_,.cons ⟨t,e⟩ r=>by subst e; exact .cons _ _ (Y2 r)
noncomputable def leS (a b:Str):Prop:=¬ b.cps.toList < a.cps.toList
theorem l9:E9 X (.builtin "sorted") (fun xs H Q=>∃ (p:Addr) (ss:List Str),xs = [.ref p]/\SqL X.K H p (ss.map V.str)/\∀ (l:Addr) (ss':List Str),H l = none->ss'.Perm ss->ss'.Pairwise leS->Q (.ref l) (upd H l (.lst (ss'.map V.str)))):=by
 intro pins s σ H xs us Q I r h
 obtain ⟨p,ss,rfl,hq,q⟩:=h
 obtain ⟨u,rfl,ru⟩:=X1 r
 cases ru
 obtain ⟨its,rv,pl,hz⟩:=I.list hq
 have hS:=Y2 rv
 have hl:=rv.length
 refine TS.sorted_gen (collect_list (vs:=its) pl.isList ?_ (by omega))
 refine ⟨rfl,by omega,strKind,oneType',fun s2 _=>TS.keys_strs hS,fun out h' e ho k hg=>?_⟩
 have hsz:((s.heap.push (seqObj "list" #[] 0)).update s.heap.objs.size (Obj.mapSeq (· ++ its.toArray))).objs.size = s.heap.objs.size + 1:=by rw [Heap.size_update,size_push']
 obtain ⟨hp,hs⟩:=ho
 have hm:∀ v ∈ out.toList,∃ x t,v = .str x t:=fun v hv=>hS.all v (hp.mem_iff.mp hv)
 have hv:Vals ((out.toList.map strOf).map V.str) out.toList:=by
  have:∀ us:List Value,(∀ v ∈ us,∃ x t,v = .str x t)->Vals ((us.map strOf).map V.str) us:=by
   intro us
   induction us with
   | nil=>exact fun _=>.nil
   | cons v r ih =>
    intro h
    obtain ⟨x,t,rfl⟩:=h v (List.mem_cons_self ..)
    exact .cons ⟨t,rfl⟩ (ih fun u hu=>h u (List.mem_cons_of_mem _ hu))
  exact this _ hm
 have hperm:(out.toList.map strOf).Perm ss:=by
  have:=hp.map strOf
  rwa [hS.strs] at this
 have hpw:(out.toList.map strOf).Pairwise leS:=by
  rw [List.pairwise_map]
  refine (List.Pairwise.and_mem.mp hs).imp fun {u v} ⟨hu,hv',q⟩=>?_
  obtain ⟨x,t,rfl⟩:=hm u hu
  obtain ⟨y,t',rfl⟩:=hm v hv'
  have q':decide (y.cps.toList < x.cps.toList) = false:=q
  exact of_decide_eq_false q'
 have hk0:∀ b o,s.heap.get? b = some o->h'.get? b = some o:=fun b o eb=>k b o (by
  rw [Heap.get?_update_ne _ _ _ _ (Nat.ne_of_lt (Heap.lt_size eb))]
  exact Heap.get?_push_of_some _ eb)
 have hn:H (s.heap.objs.size + 1) = none:=I.hok.fresh (Nat.le_succ _)
 have hg':h'.get? (s.heap.objs.size + 1) = some (seqObj "list" out e):=by rw [<-hsz]; exact hg
 refine ⟨.ref (s.heap.objs.size + 1),upd H (s.heap.objs.size + 1) (.lst ((out.toList.map strOf).map V.str)),?_,by show Value.ref _ = _; rw [<-hsz],q _ _ hn hperm hpw⟩
 refine I.laid (t':=s.toks) hk0 (Nat.le_succ _) ⟨?_,out.toList,e,hv,by simpa using hg'⟩
 rw [List.length_map,List.length_map,hp.length_eq]
 omega
end
end L2
namespace L2
open PySem PySem.Spec PyProof.Rows
theorem Fp {α β:Type} (f:α->β) {l m:List β} (h:l.Perm m):∀ ps:List α,m = ps.map f->∃ ps':List α,ps'.Perm ps/\l = ps'.map f:=by
 induction h with
 | nil=>intro ps e; exact ⟨ps,.refl _,e⟩
 | cons x _ ih =>
  intro ps e
  cases ps with
  | nil=>cases e
  | cons p ps =>
   rw [List.map_cons] at e
   obtain ⟨rfl,e2⟩:=List.cons.inj e
   obtain ⟨ps',h1,h2⟩:=ih ps e2
   exact ⟨p :: ps',.cons _ h1,by rw [List.map_cons,h2]⟩
 | swap x y l =>
  intro ps e
  match ps,e with
  | p :: q :: ps,e =>
   rw [List.map_cons,List.map_cons] at e
   obtain ⟨rfl,e2⟩:=List.cons.inj e
   obtain ⟨rfl,e3⟩:=List.cons.inj e2
   exact ⟨q :: p :: ps,.swap _ _ _,by rw [List.map_cons,List.map_cons,e3]⟩
 | trans _ _ ih1 ih2 =>
  intro ps e
  obtain ⟨ps1,h1,h2⟩:=ih2 ps e
  obtain ⟨ps2,h3,h4⟩:=ih1 ps1 h2
  exact ⟨ps2,h3.trans h1,h4⟩
noncomputable abbrev PA2:=Addr × Str × Str
noncomputable def Wq (q:PA2):List Nat × List Nat:=(q.2.1.cps.toList,q.2.2.cps.toList)
noncomputable def leP (q r:PA2):Prop:=TS.pairLt (Wq r) (Wq q) = false
noncomputable def E6 (H:Hp) (q:PA2):Prop:=H q.1 = some (.tup [.str q.2.1,.str q.2.2])
theorem Fg:∀ {ps:List PA2} {us:List Value},Vals (ps.map fun q=>V.ref q.1) us->us = ps.map fun q=>Value.ref q.1
 | [],_,.nil=>rfl
 | _ :: _,_,.cons r t=>by rw [List.map_cons,Fg t]; cases r; rfl
theorem Ep:∀ (ps:List PA2),Vals (ps.map fun q=>V.ref q.1) (ps.map fun q=>Value.ref q.1)
 | []=>.nil
 | _ :: ps=>.cons rfl (Ep ps)
section
variable {X:Cx}
theorem Inv.pairAt {pins:List (Addr × Obj)} {σ:St} {H:Hp} {s:Shared} {q:PA2} (I:Inv X pins σ H s) (h:E6 H q):TS.PairAt s.heap (.ref q.1) q.2.1 q.2.2:=by
 obtain ⟨its,rv,⟨o,e,c,n,d⟩,_⟩:=I.tuple (SqT.of h)
 obtain ⟨u1,u2,rfl,⟨t,rfl⟩,⟨t',rfl⟩⟩:=rv.two
 exact ⟨q.1,o,n,t,t',rfl,e,c,d⟩
theorem Gk:E9 X (.builtin "sorted") (fun xs H Q=>∃ (p:Addr) (ps:List PA2),xs = [.ref p]/\SqL X.K H p (ps.map fun q=>V.ref q.1)/\(∀ q ∈ ps,E6 H q) /\
  ∀ (l:Addr) (ps':List PA2),H l = none->ps'.Perm ps->ps'.Pairwise leP->Q (.ref l) (upd H l (.lst (ps'.map fun q=>V.ref q.1)))):=by
 intro pins s σ H xs us Q I r h
 obtain ⟨p,ps,rfl,hq,hpi,q⟩:=h
 obtain ⟨u,rfl,ru⟩:=X1 r
 cases ru
 obtain ⟨its,rv,pl,hz⟩:=I.list hq
 have ei:=Fg rv
 have hl:=rv.length
 refine TS.sorted_gen (collect_list (vs:=its) pl.isList ?_ (by omega))
 have hsz:((s.heap.push (seqObj "list" #[] 0)).update s.heap.objs.size (Obj.mapSeq (· ++ its.toArray))).objs.size = s.heap.objs.size + 1:=by rw [Heap.size_update,size_push']
 have hk1:∀ b o,s.heap.get? b = some o->((s.heap.push (seqObj "list" #[] 0)).update s.heap.objs.size (Obj.mapSeq (· ++ its.toArray))).get? b = some o:=fun b o eb=>by
  rw [Heap.get?_update_ne _ _ _ _ (Nat.ne_of_lt (Heap.lt_size eb))]
  exact Heap.get?_push_of_some _ eb
 have hpa:∀ q ∈ ps,TS.PairAt s.heap (.ref q.1) q.2.1 q.2.2:=fun q hq=>I.pairAt (hpi q hq)
 refine ⟨rfl,by omega,TS.pairKind s.heap,tuples' true,fun s2 hE=>TS.keys_pairs (fun v hv=>?_) (fun b o eb=>?_),fun out h' e ho k hg=>?_⟩
 ·rw [ei] at hv
  obtain ⟨q,hq,rfl⟩:=List.mem_map.mp hv
  exact ⟨_,_,hpa q hq⟩
 ·have hne:b ≠ ((s.heap.push (seqObj "list" #[] 0)).update s.heap.objs.size (Obj.mapSeq (· ++ its.toArray))).objs.size:=by
   rw [hsz]
   exact Nat.ne_of_lt (Nat.lt_succ_of_lt (Heap.lt_size eb))
  exact ⟨hne,hE b o hne (hk1 b o eb)⟩
 ·obtain ⟨hp,hs⟩:=ho
  rw [ei] at hp
  obtain ⟨ps',h1,h2⟩:=Fp (fun q:PA2=>Value.ref q.1) hp ps rfl
  have hpw:ps'.Pairwise leP:=by
   rw [h2,List.pairwise_map] at hs
   refine (List.Pairwise.and_mem.mp hs).imp fun {a b} ⟨ha,hb,z⟩=>?_
   have ka:=(hpa a (h1.mem_iff.mp ha)).key
   have kb:=(hpa b (h1.mem_iff.mp hb)).key
   have z':TS.pairLt ((TS.pairOf s.heap (.ref b.1)).getD ([],[])) ((TS.pairOf s.heap (.ref a.1)).getD ([],[])) = false:=z
   rw [ka,kb] at z'
   exact z'
  have hn:H (s.heap.objs.size + 1) = none:=I.hok.fresh (Nat.le_succ _)
  have hg':h'.get? (s.heap.objs.size + 1) = some (seqObj "list" out e):=by rw [<-hsz]; exact hg
  refine ⟨.ref (s.heap.objs.size + 1),upd H (s.heap.objs.size + 1) (.lst (ps'.map fun q=>V.ref q.1)),?_,by show Value.ref _ = _; rw [<-hsz],q _ _ hn h1 hpw⟩
  refine I.laid (t':=s.toks) (fun b o eb=>k b o (hk1 b o eb)) (Nat.le_succ _) ⟨?_,out.toList,e,by rw [h2]; exact Ep ps',by simpa using hg'⟩
  rw [List.length_map,h1.length_eq]
  rw [List.length_map] at hz
  exact hz
end
theorem Inv.turnLaid {X:Cx} {pins:List (Addr × Obj)} {σ:St} {H:Hp} {s:Shared} {h':Heap} {t':Nat} {fp:List Addr} {T:Addr} {o:HO} (I:Inv X pins σ H s) (k:∀ b ob,b ∉ fp->s.heap.get? b = some ob->h'.get? b = some ob)
  (hf:∀ b ∈ fp,Bh X pins H b) (hfo:∀ b ∈ fp,∃ ob,s.heap.get? b = some ob) (hT:s.heap.objs.size<=T) (new:ObjOk X.prog X.w (upd H T o) h' T o):Inv X pins σ (upd H T o) { s with heap:=h',toks:=t' }:=by
 have hn:=I.hok.fresh hT
 have nT:∀ b ob,s.heap.get? b = some ob->b ≠ T:=fun b ob e=>Nat.ne_of_lt (Nat.lt_of_lt_of_le (Heap.lt_size e) hT)
 have nf:∀ b u,H b = some u->b ∉ fp:=fun b u e hb=>by rw [(hf b hb).1] at e; cases e
 refine I.step (g':=s.gens) (d':=s.drawn) (ch:=fp) (fun b hb=>let ⟨_,f1,_,f3,f4,f5⟩:=hf b hb; ⟨f3,f1,f4,f5⟩) (fun b ob _ _ hc e _=>k b ob hc e) (fun b ob _ _ hc e _=>⟨ob.slots,k b ob hc e⟩) (fun b ob _ e n=>by rw [B2 (nT b ob e)]; exact n)
  (fun b ob hc e=>⟨ob,k b ob hc e⟩) (fun b xs e=>by rw [B2 (A8 e hn)]; exact e) (fun b u xs e=>by rw [B2 (A8 e hn)]; exact e) (fun b ps e=>⟨#[],by rw [B2 (A8 e hn),e]; simp⟩) (fun m hm=>?_) (fun b u e=>?_) I.bare
 ·obtain ⟨ob,es,ep,ho,r⟩:=hm
  exact ⟨ob,es,ep,k _ ob (fun hb=>(hf _ hb).2.1 rfl) ho,r⟩
 ·by_cases hb:b = T
  ·subst hb; rw [A7] at e; cases e; exact new
  ·rw [B2 hb] at e
   refine (I.hok b u e).stay (fun c v hc q=>k c v ?_ q) (fun c q=>by rw [B2 (A8 q hn)]; exact q) fun c xs q=>by rw [B2 (A8 q hn)]; exact q
   rcases hc with z | z
   ·rw [z]; exact nf b u e
   ·exact nf c _ z
end L2
namespace ST
open PySem
noncomputable def stp (mask i:Nat):Nat:=(5 * i + 1) % (mask + 1)
noncomputable def itr (mask:Nat):Nat->Nat->Nat
 | 0,i=>i
 | t + 1,i=>itr mask t (stp mask i)
noncomputable def orb (mask:Nat):Nat->Nat->List Nat
 | 0,_=>[]
 | n + 1,i=>i :: orb mask n (stp mask i)
theorem Hl (mask a b i:Nat):itr mask (a + b) i = itr mask b (itr mask a i):=by
 induction a generalizing i with
 | zero=>rw [Nat.zero_add]; rfl
 | succ a ih=>rw [Nat.succ_add]; exact ih (stp mask i)
theorem Pb {mask j:Nat}:∀ {n i:Nat},j ∈ orb mask n i->∃ t,t < n/\itr mask t i = j
 | 0,_,h=>by simp [orb] at h
 | n + 1,i,h=>by
  rcases List.mem_cons.mp h with rfl | h
  ·exact ⟨0,by omega,rfl⟩
  ·obtain ⟨t,h1,h2⟩:=Pb h
   exact ⟨t + 1,by omega,h2⟩
noncomputable def Msk (mask:Nat):Prop:=mask = 7\/mask = 31\/mask = 127\/mask = 511
noncomputable def full (mask:Nat):Bool:=(List.range (mask + 1)).all (fun j=>(orb mask (mask + 1) 0).contains j) && itr mask (mask + 1) 0 == 0
theorem zBg:full 7 = true:=by decide +kernel
theorem Zu:full 31 = true:=by decide +kernel
theorem Uv:full 127 = true:=by decide +kernel
theorem Ui:full 511 = true:=by decide +kernel
theorem Msk.full {mask:Nat} (h:Msk mask):full mask = true:=by
 rcases h with rfl | rfl | rfl | rfl
 ·exact zBg
 ·exact Zu
 ·exact Uv
 ·exact Ui
theorem cyc {mask:Nat} (h:Msk mask) {i j:Nat} (hi:i<=mask) (hj:j<=mask):∃ t,t<=mask/\itr mask t i = j:=by
 have f:=h.full
 unfold ST.full at f
 rw [Bool.and_eq_true,List.all_eq_true] at f
 obtain ⟨f1,f2⟩:=f
 have f2:itr mask (mask + 1) 0 = 0:=by simpa using f2
 have at_:∀ k,k<=mask->∃ t,t < mask + 1/\itr mask t 0 = k:=fun k hk=>Pb (by simpa using f1 k (List.mem_range.mpr (by omega)))
 obtain ⟨a,ha,ea⟩:=at_ i hi
 obtain ⟨b,hb,eb⟩:=at_ j hj
 by_cases hab:a<=b
 ·refine ⟨b - a,by omega,?_⟩
  rw [<-ea,<-Hl,show a + (b - a) = b by omega,eb]
 ·refine ⟨mask + 1 - a + b,by omega,?_⟩
  rw [<-ea,<-Hl,show a + (mask + 1 - a + b) = (mask + 1) + b by omega,Hl,f2,eb]
noncomputable def lps (mask:Nat):Nat->Nat × Nat->Nat × Nat
 | 0,x=>x
 | t + 1,x=>lps mask t (SetTable.leap mask x.1 x.2)
theorem Vy (mask a b:Nat) (x:Nat × Nat):lps mask (a + b) x = lps mask b (lps mask a x):=by
 induction a generalizing x with
 | zero=>rw [Nat.zero_add]; rfl
 | succ a ih=>rw [Nat.succ_add]; exact ih _
theorem Ka (mask:Nat):∀ (t:Nat) (x:Nat × Nat),(lps mask t x).2 = x.2 / 32 ^ t
 | 0,x=>by simp [lps]
 | t + 1,x=>by
  show (lps mask t (SetTable.leap mask x.1 x.2)).2 = _
  rw [Ka mask t]
  show x.2 / 32 / 32 ^ t = _
  rw [Nat.div_div_eq_div_mul,Nat.pow_succ,Nat.mul_comm]
theorem Tg (mask:Nat):∀ (t:Nat) (x:Nat × Nat),x.1<=mask->(lps mask t x).1<=mask
 | 0,_,h=>h
 | t + 1,x,_=>Tg mask t _ (Nat.lt_succ_iff.mp (Nat.mod_lt _ (Nat.succ_pos _)))
theorem Jf (mask:Nat):∀ (t i:Nat),lps mask t (i,0) = (itr mask t i,0)
 | 0,_=>rfl
 | t + 1,i=>by
  show lps mask t ((i * 5 + 1 + 0 / 32) % (mask + 1),0 / 32) = _
  rw [Nat.zero_div,Nat.add_zero,Jf mask t,Nat.mul_comm]
  rfl
theorem Om {mask:Nat} (h:Msk mask) {i j p:Nat} (hi:i<=mask) (hj:j<=mask) (hp:p < 2 ^ 64):∃ t,t<=mask + 13/\(lps mask t (i,p)).1 = j:=by
 have e2:(lps mask 13 (i,p)).2 = 0:=by
  rw [Ka]
  exact Nat.div_eq_of_lt (Nat.lt_of_lt_of_le hp (by decide))
 obtain ⟨t,ht,et⟩:=cyc h (Tg mask 13 (i,p) hi) hj
 refine ⟨13 + t,by omega,?_⟩
 rw [Vy]
 have:lps mask 13 (i,p) = ((lps mask 13 (i,p)).1,0):=Prod.ext rfl e2
 rw [this,Jf]
 exact et
noncomputable def adv (t:SetTable):Nat->SetTable.Probe->SetTable.Probe
 | 0,p=>p
 | n + 1,p=>adv t n (t.advance p)
theorem Oc (t:SetTable) (a b:Nat) (p:SetTable.Probe):adv t (a + b) p = adv t b (adv t a p):=by
 induction a generalizing p with
 | zero=>rw [Nat.zero_add]; rfl
 | succ a ih=>rw [Nat.succ_add]; exact ih _
theorem Oj (t:SetTable):∀ (m:Nat) (p:SetTable.Probe),p.more = m->∃ p',adv t (m + 1) p = p'/\p'.i = (SetTable.leap t.mask p.i p.perturb).1/\p'.perturb = (SetTable.leap t.mask p.i p.perturb).2/\p'.j = p'.i/\p'.more = SetTable.runEnd t.mask p'.i - p'.i/\p'.dummy = p.dummy
 | 0,p,h=>by
  have ea:t.advance p = { p with j:=(SetTable.leap t.mask p.i p.perturb).1,more:=SetTable.runEnd t.mask (SetTable.leap t.mask p.i p.perturb).1 - (SetTable.leap t.mask p.i p.perturb).1,i:=(SetTable.leap t.mask p.i p.perturb).1,perturb:=(SetTable.leap t.mask p.i p.perturb).2 }:=by
   unfold SetTable.advance
   rw [if_neg (by omega)]
  refine ⟨t.advance p,rfl,?_⟩
  rw [ea]
  exact ⟨rfl,rfl,rfl,rfl,rfl⟩
 | m + 1,p,h=>by
  have ea:t.advance p = { p with j:=p.j + 1,more:=p.more - 1 }:=by unfold SetTable.advance; rw [if_pos (by omega)]
  obtain ⟨p',h1,h2⟩:=Oj t m (t.advance p) (by rw [ea]; show p.more - 1 = m; omega)
  rw [ea] at h2
  exact ⟨p',h1,h2⟩
theorem Xe (mask i:Nat):SetTable.runEnd mask i - i<=9:=by unfold SetTable.runEnd; split <;> omega
theorem Md (t:SetTable):∀ (n:Nat) (p:SetTable.Probe),p.j = p.i->p.more = SetTable.runEnd t.mask p.i - p.i->∃ k,k<=10 * n/\(adv t k p).j = (lps t.mask n (p.i,p.perturb)).1
 | 0,p,h1,_=>⟨0,by omega,h1⟩
 | n + 1,p,h1,h2=>by
  obtain ⟨p',e,a1,a2,a3,a4,_⟩:=Oj t p.more p rfl
  obtain ⟨k,hk,ek⟩:=Md t n p' a3 a4
  have:=Xe t.mask p.i
  refine ⟨p.more + 1 + k,by omega,?_⟩
  rw [Oc,e,ek,a1,a2]
  rfl
theorem Gs (t:SetTable):∀ (n:Nat) (p:SetTable.Probe),(adv t n p).dummy = p.dummy
 | 0,_=>rfl
 | n + 1,p=>by
  show (adv t n (t.advance p)).dummy = _
  rw [Gs t n]
  unfold SetTable.advance
  split <;> rfl
theorem Ov {t:SetTable} (hm:Msk t.mask) (h:Int) {j:Nat} (hj:j<=t.mask):∃ n,n < 10 * SetTable.turns t.mask/\(adv t n (t.probeStart h)).j = j:=by
 have hb:SetTable.bits h < 2 ^ 64:=by
  unfold SetTable.bits
  have h1:0<=h % (2 ^ 64:Int):=Int.emod_nonneg _ (by decide)
  have h2:h % (2 ^ 64:Int) < 2 ^ 64:=Int.emod_lt_of_pos _ (by decide)
  omega
 have hi:SetTable.bits h % (t.mask + 1)<=t.mask:=Nat.lt_succ_iff.mp (Nat.mod_lt _ (Nat.succ_pos _))
 obtain ⟨n,hn,en⟩:=Om hm hi hj hb
 obtain ⟨k,hk,ek⟩:=Md t n (t.probeStart h) rfl rfl
 refine ⟨k,by unfold SetTable.turns; omega,ek.trans en⟩
theorem Y4 {t:SetTable} (hd:t.dummies = #[]) (j:Nat):t.slot j = .empty\/∃ i,t.slot j = .live i/\t.place[i]? = some j:=by
 unfold SetTable.slot
 dsimp only
 by_cases h:(t.place[SetTable.below t.place j]? == some j) = true
 ·rw [if_pos h]
  exact .inr ⟨_,rfl,by simpa using h⟩
 ·rw [if_neg h]
  have:SetTable.has t.dummies j = false:=by
   rw [hd]
   unfold SetTable.has
   simp
  rw [this]
  exact .inl rfl
theorem Kp {t:SetTable} (hd:t.dummies = #[]) (hs:t.place.size<=t.mask):∃ j,j<=t.mask/\t.slot j = .empty:=by
 by_cases h:∃ j,j<=t.mask/\t.slot j = .empty
 ·exact h
 ·exfalso
  have all:∀ j ∈ List.range (t.mask + 1),j ∈ t.place.toList:=fun j hj=>by
   have hj':j<=t.mask:=by have:=List.mem_range.mp hj; omega
   rcases Y4 hd j with e | ⟨i,_,e⟩
   ·exact absurd ⟨j,hj',e⟩ h
   ·exact List.mem_of_getElem? (by rw [Array.getElem?_toList]; exact e)
  have:=(List.nodup_range (n:=t.mask + 1)).length_le_of_subset all
  rw [List.length_range,Array.length_toList] at this
  omega
theorem Th {t:SetTable} (hd:t.dummies = #[]) (hashAt:Nat->Int) (h:Int) (p:SetTable.Probe) (hpd:p.dummy = none):∀ (k m n fuel:Nat),m + k = n->t.slot (adv t n p).j = .empty->k < fuel ->
  (∃ j,SetTable.probe.go t hashAt h fuel (adv t m p) = some (.empty j none)/\t.slot j = .empty) \/
   ∃ l i,m<=l/\l < n/\t.slot (adv t l p).j = .live i/\hashAt i = h/\SetTable.probe.go t hashAt h fuel (adv t m p) = some (.candidate (adv t l p).j i (adv t (l + 1) p))
 | k,m,n,0,_,_,hf=>absurd hf (Nat.not_lt_zero _)
 | k,m,n,fuel + 1,e,he,hf=>by
  have hdm:(adv t m p).dummy = none:=(Gs t m p).trans hpd
  have nx:adv t (m + 1) p = t.advance (adv t m p):=Oc t m 1 p
  rcases Y4 hd (adv t m p).j with es | ⟨i,es,ep⟩
  ·refine .inl ⟨(adv t m p).j,?_,es⟩
   unfold SetTable.probe.go
   rw [es,hdm]
  ·have hk:k ≠ 0:=by
    rintro rfl
    have:m = n:=by omega
    subst this
    rw [he] at es; cases es
   by_cases hh:hashAt i = h
   ·refine .inr ⟨m,i,Nat.le_refl _,by omega,es,hh,?_⟩
    unfold SetTable.probe.go
    rw [es]
    dsimp only
    rw [if_pos (by simpa using hh),nx]
   ·have eg:SetTable.probe.go t hashAt h (fuel + 1) (adv t m p) = SetTable.probe.go t hashAt h fuel (adv t (m + 1) p):=by
     conv=>lhs; unfold SetTable.probe.go
     rw [es]
     dsimp only
     rw [if_neg (by simpa using hh),nx]
    rcases Th hd hashAt h p hpd (k - 1) (m + 1) n fuel (by omega) he (by omega) with ⟨j,h1,h2⟩ | ⟨l,i',h1,h2,h3,h4,h5⟩
    ·exact .inl ⟨j,eg.trans h1,h2⟩
    ·exact .inr ⟨l,i',by omega,h2,h3,h4,eg.trans h5⟩
end ST
namespace ST
open PySem
theorem Cz {α β:Type} {f g:α->Option β}:∀ {l:List α},(∀ x ∈ l,f x = g x)->l.filterMap f = l.filterMap g
 | [],_=>rfl
 | a :: r,h=>by
  have h1:=h a (List.mem_cons_self ..)
  have h2:=Cz (l:=r) fun x hx=>h x (List.mem_cons_of_mem _ hx)
  rw [List.filterMap_cons,List.filterMap_cons,h1,h2]
theorem Ue {α:Type} {f g:Nat->Option α} {j:Nat} {k:α} (hg:g j = some k) (hf:f j = none):∀ {l:List Nat},l.Nodup->j ∈ l->(∀ i,i ≠ j->g i = f i)->(l.filterMap g).Perm (k :: l.filterMap f)
 | [],_,h,_=>by simp at h
 | i :: r,nd,h,he=>by
  obtain ⟨n1,n2⟩:=List.nodup_cons.mp nd
  by_cases e:i = j
  ·subst e
   have er:r.filterMap g = r.filterMap f:=Cz fun x hx=>he x fun z=>n1 (z ▸ hx)
   rw [List.filterMap_cons_some hg,List.filterMap_cons_none hf,er]
  ·have hr:=Ue hg hf n2 ((List.mem_cons.mp h).resolve_left fun z=>e z.symm) he
   cases ef:f i with
   | none=>rw [List.filterMap_cons_none ((he i e).trans ef),List.filterMap_cons_none ef]; exact hr
   | some b =>
    rw [List.filterMap_cons_some ((he i e).trans ef),List.filterMap_cons_some ef]
    exact (List.Perm.cons b hr).trans (List.Perm.swap _ _ _)
noncomputable def ocs (mask:Nat) (ow:Array (Option Nat)):List Nat:=(List.range (mask + 1)).filterMap fun j=>ow.getD j none
structure LI (mask:Nat) (ow:Array (Option Nat)) (k:Nat):Prop where
 sz:ow.size = mask + 1
 pm:(ocs mask ow).Perm (List.range k)
theorem Qf {mask:Nat} {ow:Array (Option Nat)} {j:Nat} (hj:ow[j]? = some none):∀ (t fuel i p:Nat),(lps mask t (i,p)).1 = j->t < fuel->∃ j',SetTable.layClean.free mask ow fuel i p = some j'/\ow[j']? = some none
 | t,0,_,_,_,h=>absurd h (Nat.not_lt_zero _)
 | t,fuel + 1,i,p,e,h=>by
  unfold SetTable.layClean.free
  cases q:(List.range (SetTable.runEnd mask i + 1 - i)).find? fun k=>(ow.getD (i + k) (some 0)).isNone with
  | some k =>
   refine ⟨i + k,rfl,?_⟩
   have:=List.find?_some q
   rw [Array.getD_eq_getD_getElem?] at this
   cases g:ow[i + k]? with
   | none=>rw [g] at this; simp at this
   | some z=>rw [g] at this; simp at this; rw [this]
  | none =>
   dsimp only
   cases t with
   | zero =>
    exfalso
    have e':i = j:=e
    subst e'
    have hr:0 ∈ List.range (SetTable.runEnd mask i + 1 - i):=List.mem_range.mpr (by unfold SetTable.runEnd; split <;> omega)
    have:=List.find?_eq_none.mp q 0 hr
    rw [Array.getD_eq_getD_getElem?,Nat.add_zero,hj] at this
    simp at this
   | succ t=>exact Qf hj t fuel _ _ e (by omega)
theorem LI.room {mask:Nat} {ow:Array (Option Nat)} {k:Nat} (h:LI mask ow k) (hk:k<=mask):∃ j,j<=mask/\ow[j]? = some none:=by
 by_cases q:∃ j,j<=mask/\ow[j]? = some none
 ·exact q
 ·exfalso
  have all:∀ j ∈ List.range (mask + 1),∃ v,ow.getD j none = some v:=fun j hj=>by
   have hj':j < ow.size:=by rw [h.sz]; exact List.mem_range.mp hj
   cases e:ow[j]? with
   | none=>rw [Array.getElem?_eq_none_iff] at e; omega
   | some v =>
    cases v with
    | none=>exact absurd ⟨j,by have:=List.mem_range.mp hj; omega,e⟩ q
    | some v=>exact ⟨v,by rw [Array.getD_eq_getD_getElem?,e]; rfl⟩
  have hl:∀ l:List Nat,(∀ j ∈ l,∃ v,ow.getD j none = some v)->(l.filterMap fun j=>ow.getD j none).length = l.length:=by
   intro l
   induction l with
   | nil=>intro _; rfl
   | cons j r ih =>
    intro ha
    obtain ⟨v,hv⟩:=ha j (List.mem_cons_self ..)
    rw [List.filterMap_cons_some (f:=fun j=>ow.getD j none) hv,List.length_cons,List.length_cons,ih fun x hx=>ha x (List.mem_cons_of_mem _ hx)]
  have:=h.pm.length_eq
  unfold ocs at this
  rw [hl _ all,List.length_range,List.length_range] at this
  omega
theorem LI.put {mask:Nat} {ow:Array (Option Nat)} {k j:Nat} (h:LI mask ow k) (hj:ow[j]? = some none):LI mask (ow.setIfInBounds j (some k)) (k + 1):=by
 have hlt:j < ow.size:=by
  obtain ⟨h1,_⟩:=Array.getElem?_eq_some_iff.mp hj
  exact h1
 refine ⟨by rw [Array.size_setIfInBounds]; exact h.sz,?_⟩
 have p:=Ue (f:=fun j=>ow.getD j none) (g:=fun i=>(ow.setIfInBounds j (some k)).getD i none) (j:=j) (k:=k) (by rw [Array.getD_eq_getD_getElem?,Array.getElem?_setIfInBounds_self_of_lt hlt]; rfl) (by rw [Array.getD_eq_getD_getElem?,hj]; rfl)
  (l:=List.range (mask + 1)) List.nodup_range (List.mem_range.mpr (by rw [<-h.sz]; exact hlt)) fun i hi=>by
   rw [Array.getD_eq_getD_getElem?,Array.getElem?_setIfInBounds_ne (Ne.symm hi),<-Array.getD_eq_getD_getElem?]
 have e:List.range (k + 1) = List.range k ++ [k]:=List.range_succ
 refine p.trans ?_
 rw [e]
 exact (List.Perm.cons k h.pm).trans (List.perm_append_comm (l₁:=[k]))
theorem Us (h:Int):SetTable.bits h < 2 ^ 64:=by
 unfold SetTable.bits
 have h1:0<=h % (2 ^ 64:Int):=Int.emod_nonneg _ (by decide)
 have h2:h % (2 ^ 64:Int) < 2 ^ 64:=Int.emod_lt_of_pos _ (by decide)
 omega
theorem Tt {mask:Nat} (hm:Msk mask):∀ (hs:List Int) (ow:Array (Option Nat)) (k:Nat),LI mask ow k->k + hs.length<=mask->∃ ow',(hs.foldl (init:=some (ow,k)) fun acc h=>do
   let (owner,k) <-acc
   let j <-SetTable.layClean.free mask owner (SetTable.turns mask) (SetTable.bits h % (mask + 1)) (SetTable.bits h)
   pure (owner.setIfInBounds j (some k),k + 1)) = some (ow',k + hs.length)/\LI mask ow' (k + hs.length)
 | [],ow,k,h,_=>⟨ow,rfl,h⟩
 | x :: r,ow,k,h,hk=>by
  rw [List.length_cons] at hk
  obtain ⟨j,hj,ej⟩:=h.room (by omega)
  obtain ⟨t,ht,et⟩:=Om hm (i:=SetTable.bits x % (mask + 1)) (j:=j) (Nat.lt_succ_iff.mp (Nat.mod_lt _ (Nat.succ_pos _))) hj (Us x)
  obtain ⟨j',h1,h2⟩:=Qf ej t (SetTable.turns mask) _ _ et (by unfold SetTable.turns; omega)
  obtain ⟨ow',h3,h4⟩:=Tt hm r (ow.setIfInBounds j' (some k)) (k + 1) (h.put h2) (by omega)
  refine ⟨ow',?_,by rw [List.length_cons,show k + (r.length + 1) = k + 1 + r.length by omega]; exact h4⟩
  rw [List.foldl_cons]
  show List.foldl _ ((SetTable.layClean.free mask ow (SetTable.turns mask) (SetTable.bits x % (mask + 1)) (SetTable.bits x)).bind fun j=>some (ow.setIfInBounds j (some k),k + 1)) r = _
  rw [h1]
  show List.foldl _ (some (ow.setIfInBounds j' (some k),k + 1)) r = _
  rw [List.length_cons,show k + (r.length + 1) = k + 1 + r.length by omega]
  exact h3
theorem Va {mask:Nat} (hm:Msk mask) (finger moves:Nat) (led plain:Bool) (hs:Array Int) (hn:hs.size<=mask) :
  ∃ place order,SetTable.laid mask finger moves led plain hs = some ({ mask,place,dummies:=#[],finger,led,moves,plain },order)/\place.size = hs.size/\order.toList.Perm (List.range hs.size):=by
 have h0:LI mask (Array.replicate (mask + 1) none) 0:=by
  refine ⟨Array.size_replicate,?_⟩
  have:ocs mask (Array.replicate (mask + 1) none) = []:=by
   unfold ocs
   rw [List.filterMap_eq_nil_iff]
   intro j hj
   rw [Array.getD_eq_getD_getElem?,Array.getElem?_replicate]
   split <;> rfl
  rw [this]
  exact List.Perm.refl _
 obtain ⟨ow,h1,h2⟩:=Tt hm hs.toList _ 0 h0 (by rw [Array.length_toList]; omega)
 rw [Nat.zero_add,Array.length_toList] at h1 h2
 have hc:SetTable.layClean mask hs = some ow:=by
  unfold SetTable.layClean
  rw [<-Array.foldl_toList,h1]
  rfl
 have e2:((List.range (mask + 1)).filterMap fun j=>(ow.getD j none).map (j,·)).map (·.2) = ocs mask ow:=by
  unfold ocs
  rw [List.map_filterMap]
  refine Cz fun j _=>?_
  cases ow.getD j none <;> rfl
 refine ⟨(((List.range (mask + 1)).filterMap fun j=>(ow.getD j none).map (j,·)).map (·.1)).toArray,(((List.range (mask + 1)).filterMap fun j=>(ow.getD j none).map (j,·)).map (·.2)).toArray,?_,?_,?_⟩
 ·unfold SetTable.laid
  rw [hc]
  rfl
 ·rw [List.size_toArray,List.length_map,<-List.length_map (f:=(·.2)),e2,h2.pm.length_eq,List.length_range]
 ·show (((List.range (mask + 1)).filterMap fun j=>(ow.getD j none).map (j,·)).map (·.2)).Perm _
  rw [e2]
  exact h2.pm
theorem Rk {es:Array (Int × Value)} {order:Array Nat} (h:order.toList.Perm (List.range es.size)):(order.filterMap (es[·]?)).toList.Perm es.toList:=by
 rw [Array.toList_filterMap]
 refine (h.filterMap _).trans (List.Perm.of_eq ?_)
 refine List.ext_getElem? fun t=>?_
 have:(List.range es.size).filterMap (fun x=>es[x]?) = es.toList:=by
  have:∀ (l:List (Int × Value)),(List.range l.length).filterMap (fun x=>l[x]?) = l:=by
   intro l
   induction l with
   | nil=>rfl
   | cons a r ih =>
    rw [List.length_cons,List.range_succ_eq_map,List.filterMap_cons_some (by rfl:(a :: r)[0]? = some a),List.filterMap_map]
    congr 1
  have q:=this es.toList
  rw [Array.length_toList] at q
  simpa using q
 rw [this]
end ST
namespace ST
open PySem
section
variable {prog:Program} {w:World} {K:Type} [DecidableEq K] {knd:KeyKind prog w K} {A:Around} {E:Value->Shared->Prop} {s:Shared}
structure Tab (t:SetTable) (n:Nat):Prop where
 dm:t.dummies = #[]
 pl:t.place.size = n
 mm:Msk t.mask
 rm:n * 5 < t.mask * 3
theorem Tab.fits {t:SetTable} {n:Nat} (h:Tab t n):t.fits n = true:=by
 have:=h.rm
 have:=h.pl
 unfold SetTable.fits SetTable.fill
 rw [h.dm]
 simp
 omega
theorem Tab.odd {t:SetTable} {n:Nat} (h:Tab t n):t.gaveWay = false:=by
 unfold SetTable.gaveWay
 rcases h.mm with e | e | e | e <;> rw [e] <;> rfl
noncomputable def Els (knd:KeyKind prog w K) (es:Array (Int × Value)) (ks:List (List K × Addr)):Prop:=es.toList.Perm (ks.map fun q=>((tupleKind knd).hash q.1,Value.ref q.2))
noncomputable def TSet (knd:KeyKind prog w K) (h:Heap) (a:Addr) (ks:List (List K × Addr)):Prop:=∃ o es ep t,h.get? a = some o/\o.ExactSet/\o.data = .set es ep t/\Els knd es ks/\Tab t es.size
theorem Els.get {es:Array (Int × Value)} {ks:List (List K × Addr)} (h:Els knd es ks) {i:Nat} {e:Int × Value} (he:es[i]? = some e):∃ k p,(k,p) ∈ ks/\e = ((tupleKind knd).hash k,.ref p):=by
 have:e ∈ es.toList:=List.mem_of_getElem? (by rw [Array.getElem?_toList]; exact he)
 obtain ⟨q,hq,rfl⟩:=List.mem_map.mp (h.mem_iff.mp this)
 exact ⟨q.1,q.2,hq,rfl⟩
theorem At {β:Type} {c:β} {f:Value->β->Sem (ForInStep β)}:∀ {l:List Value},(∀ y ∈ l,f y c = pure (.yield c))->forIn l c f = pure c
 | [],_=>List.forIn_nil
 | a :: r,h=>by
  rw [List.forIn_cons,h a (List.mem_cons_self ..),pure_bind]
  exact At fun y hy=>h y (List.mem_cons_of_mem _ hy)
theorem Gu {ks:List K} {vs:List Value} (h:ItemsAre knd ks vs):∀ v ∈ vs,∃ x,knd.is x v = true:=by
 induction h with
 | nil=>intro v hv; simp at hv
 | cons h1 _ ih =>
  intro v hv
  rcases List.mem_cons.mp hv with rfl | hv
  ·exact ⟨_,h1⟩
  ·exact ih v hv
noncomputable def Flat (knd:KeyKind prog w K):Prop:=∀ v,(∃ x,knd.is x v = true)->carriedByValue v = true
theorem Flat.no {v:Value} (hF:Flat knd) (h:∃ x,knd.is x v = true) (d:Nat):ofAClassStatement d v = pure false:=by
 have:=hF v h
 cases v <;> first
  | (cases d <;> rfl)
  | (exact absurd this (by intro z; cases z))
theorem Tk {k:List K} {p:Addr} {Q:Bool->Shared->Prop} (hF:Flat knd) (hk:(tupleKind knd).is s.heap k p) (h:Q false s):wpAny (model prog w) A (ofAClassStatement 8 (.ref p)) Q E s:=by
 obtain ⟨o,items,n,ho,hc,hd,hi⟩:=hk
 have hT:s.TypeIs (.ref p) "tuple":=⟨o,ho,hc⟩
 unfold ofAClassStatement
 refine wpAny_bind (wpAny_typeOf hT ?_)
 dsimp only
 rw [if_pos (by rfl)]
 refine wpAny_bind (wpAny_pure ?_)
 simp only [Bool.not_true,Bool.false_eq_true,if_false]
 refine wpAny_bind (wpAny_seqItems ho hd ?_)
 dsimp only
 rw [<-Array.forIn_toList,At fun y hy=>by rw [hF.no (Gu hi y hy)]; rfl]
 exact wpAny_bind (wpAny_pure (wpAny_pure h))
theorem Xa {kx:List K} {px:Addr} {Q:Bool->Shared->Prop} (hF:Flat knd) (hx:(tupleKind knd).is s.heap kx px) (h:Q false s) {l:List Value} (hl:∀ v ∈ l,∃ k p,v = .ref p/\(tupleKind knd).is s.heap k p) :
  wpAny (model prog w) A (searchCouldBeSeen (.ref px) l) Q E s:=by
 unfold searchCouldBeSeen
 refine wpAny_bind (wpAny_forIn_list _ (fun rest c s'=>s' = s/\c = (none,())/\∀ v ∈ rest,v ∈ l) _ ?_ ?_ l _ ⟨rfl,rfl,fun _ h=>h⟩)
 ·rintro v rest c s' ⟨rfl,rfl,hr⟩
  obtain ⟨k,p,rfl,hk⟩:=hl v (hr v (List.mem_cons_self ..))
  dsimp only
  have hc:carriedByValue (Value.ref px) = false:=rfl
  rw [hc,Bool.false_and,Bool.or_false]
  split
  ·exact wpAny_pure ⟨rfl,rfl,fun u hu=>hr u (List.mem_cons_of_mem _ hu)⟩
  ·refine wpAny_bind ((tupleKind knd).quiet hx ?_)
   simp only [Bool.not_true,Bool.false_eq_true,if_false]
   refine wpAny_bind ((tupleKind knd).quiet hk ?_)
   simp only [Bool.not_true,Bool.false_eq_true,if_false]
   refine wpAny_bind (Tk hF hx ?_)
   simp only [Bool.false_eq_true,if_false]
   refine wpAny_bind (Tk hF hk ?_)
   simp only [Bool.false_eq_true,if_false]
   exact wpAny_pure ⟨rfl,rfl,fun u hu=>hr u (List.mem_cons_of_mem _ hu)⟩
 ·rintro c s' ⟨rfl,rfl,_⟩
  exact wpAny_pure h
end
end ST
namespace ST
open PySem
section
variable {prog:Program} {w:World} {K:Type} [DecidableEq K] {knd:KeyKind prog w K} {A:Around} {E:Value->Shared->Prop} {s:Shared}
theorem Qt (t:SetTable):t.sameMemory t.moves t.mask = some true:=by
 unfold SetTable.sameMemory
 simp
theorem Hd {a:Addr} {o:Obj} {es:Array (Int × Value)} {ep:Nat} {t:SetTable} {ks:List (List K × Addr)} {kx:List K} {px:Addr} {adding:Bool} {Q:SetFound->Shared->Prop} {n:Nat}
  (hr:(tupleKind knd).room A) (hF:Flat knd) (ho:s.heap.get? a = some o) (hd:o.data = .set es ep t) (hE:Els knd es ks) (hT:Tab t es.size)
  (hks:∀ q ∈ ks,(tupleKind knd).is s.heap q.1 q.2) (hx:(tupleKind knd).is s.heap kx px) (hne:∀ q ∈ ks,q.1 ≠ kx) (hn:n < 10 * SetTable.turns t.mask)
  (he:t.slot (adv t n (t.probeStart ((tupleKind knd).hash kx))).j = .empty) (h:∀ j,t.slot j = .empty->Q (.free j false) s) :
  ∀ (k m fuel:Nat) (stand:Option SetTable.Probe),stand.getD (t.probeStart ((tupleKind knd).hash kx)) = adv t m (t.probeStart ((tupleKind knd).hash kx))->m + k = n->k < fuel ->
   wpAny (model prog w) A (setSearchFrom a (.ref px) ((tupleKind knd).hash kx) adding fuel stand) Q E s:=by
 intro k
 induction k using Nat.strongRecOn with
 | _ k ih =>
  intro m fuel stand hst hmk hf
  cases fuel with
  | zero=>omega
  | succ fuel =>
   unfold setSearchFrom
   refine wpAny_bind (wpAny_setState_of ho hd hT.fits ?_)
   dsimp only
   rw [hT.odd]
   simp only [Bool.false_eq_true,if_false]
   rw [hst]
   unfold SetTable.probe
   rcases Th hT.dm _ ((tupleKind knd).hash kx) (t.probeStart ((tupleKind knd).hash kx)) rfl k m n (10 * SetTable.turns t.mask) hmk he (by omega) with ⟨j,e1,e2⟩ | ⟨l,i,h1,h2,e1,e2,e3⟩
   ·rw [e1]
    dsimp only
    exact wpAny_pure (h j e2)
   ·rw [e3]
    dsimp only
    obtain ⟨i',hi',hpl⟩:∃ i',t.slot (adv t l (t.probeStart ((tupleKind knd).hash kx))).j = .live i'/\t.place[i']? = some (adv t l (t.probeStart ((tupleKind knd).hash kx))).j:=by
     rcases Y4 hT.dm (adv t l (t.probeStart ((tupleKind knd).hash kx))).j with z | z
     ·rw [z] at e1; cases e1
     ·exact z
    rw [e1] at hi'; cases hi'
    have hlt:i < es.size:=by
     have:=(Array.getElem?_eq_some_iff.mp hpl).1
     rw [hT.pl] at this; exact this
    obtain ⟨ent,hent⟩:∃ ent,es[i]? = some ent:=⟨es[i],Array.getElem?_eq_some_iff.mpr ⟨hlt,rfl⟩⟩
    obtain ⟨k',p',hm',rfl⟩:=hE.get hent
    have hseen:∀ v ∈ (es.filter (·.1 == (tupleKind knd).hash kx)).toList.map (·.2),∃ k p,v = .ref p/\(tupleKind knd).is s.heap k p:=by
     intro v hv
     obtain ⟨z,hz,rfl⟩:=List.mem_map.mp hv
     have hz':z ∈ es.toList:=by
      rw [Array.toList_filter] at hz
      exact (List.mem_filter.mp hz).1
     obtain ⟨q,hq,rfl⟩:=List.mem_map.mp (hE.mem_iff.mp hz')
     exact ⟨q.1,q.2,rfl,hks q hq⟩
    have rest:wpAny (model prog w) A (do
      let some (_,y):=es[i]? | unsupported "internal:set-entry"
      let equal <-holding [y] (eqBool y (.ref px))
      let (es',_,t') <-setState a
      if adding && equal then return .there none
      let some same:=t'.sameMemory t.moves t.mask | unsupported "set.changed-during-lookup:is-the-new-block-at-the-old-address"
      let still <-match (if same then t'.slot (adv t l (t.probeStart ((tupleKind knd).hash kx))).j else .empty) with
       | .live i'=>match es'[i']? with
        | some (_,y')=>do pure (if <-isSame y' y then some i' else none)
        | none=>pure none
       | _=>pure none
      match still with
      | none=>rule "set.search.anew"; setSearchFrom a (.ref px) ((tupleKind knd).hash kx) adding fuel none
      | some i'=>if equal then return .there (some i') else setSearchFrom a (.ref px) ((tupleKind knd).hash kx) adding fuel (some (adv t (l + 1) (t.probeStart ((tupleKind knd).hash kx))))) Q E s:=by
     rw [hent]
     dsimp only
     refine wpAny_bind (wpAny_holding ((tupleKind knd).eqBool hr (hks _ hm') hx ?_))
     rw [decide_eq_false (hne _ hm')]
     refine wpAny_bind (wpAny_setState_of ho hd hT.fits ?_)
     dsimp only
     rw [Qt,Bool.and_false]
     simp only [Bool.false_eq_true,if_false,if_true]
     rw [e1]
     dsimp only
     rw [hent]
     dsimp only
     refine wpAny_bind (wpAny_isSame_ref_self (wpAny_bind (wpAny_pure ?_)))
     simp only [if_true]
     exact ih (n - (l + 1)) (by omega) (l + 1) fuel _ rfl (by omega) (by omega)
    cases hled:t.led with
    | true =>
     simp only [Bool.not_true,Bool.false_eq_true,if_false]
     exact rest
    | false =>
     simp only [Bool.not_false,if_true]
     refine wpAny_bind (Xa hF hx ?_ hseen)
     simp only [Bool.false_eq_true,if_false]
     exact rest
theorem u7 {a:Addr} {o:Obj} {es:Array (Int × Value)} {ep:Nat} {t:SetTable} {ks:List (List K × Addr)} {kx:List K} {px:Addr} {adding:Bool} {Q:SetFound->Shared->Prop}
  (hr:(tupleKind knd).room A) (hF:Flat knd) (ho:s.heap.get? a = some o) (hd:o.data = .set es ep t) (hE:Els knd es ks) (hT:Tab t es.size)
  (hks:∀ q ∈ ks,(tupleKind knd).is s.heap q.1 q.2) (hx:(tupleKind knd).is s.heap kx px) (hne:∀ q ∈ ks,q.1 ≠ kx) (h:∀ j,t.slot j = .empty->Q (.free j false) s) :
  wpAny (model prog w) A (setSearch a (.ref px) ((tupleKind knd).hash kx) adding) Q E s:=by
 obtain ⟨j,hj,hs⟩:=Kp hT.dm (by rw [hT.pl]; have:=hT.rm; omega)
 obtain ⟨n,hn,e⟩:=Ov hT.mm ((tupleKind knd).hash kx) hj
 unfold setSearch
 refine Hd hr hF ho hd hE hT hks hx hne hn (by rw [e]; exact hs) h n 0 100000 none rfl (by omega) ?_
 have:SetTable.turns t.mask<=526:=by
  unfold SetTable.turns
  rcases hT.mm with e | e | e | e <;> omega
 omega
theorem TSet.typeIs {a:Addr} {ks:List (List K × Addr)} (h:TSet knd s.heap a ks):s.TypeIs (.ref a) "set":=let ⟨o,_,_,_,ho,hc,_⟩:=h; ⟨o,ho,hc.1⟩
theorem Mi {px:Addr} {es:Array (Int × Value)}:byScan (.ref px) es = false:=rfl
theorem Pm {a:Addr} {ks:List (List K × Addr)} {kx:List K} {px:Addr} {Q:Option Nat->Shared->Prop} (hr:(tupleKind knd).room A) (hF:Flat knd) (hS:TSet knd s.heap a ks)
  (hks:∀ q ∈ ks,(tupleKind knd).is s.heap q.1 q.2) (hx:(tupleKind knd).is s.heap kx px) (hne:∀ q ∈ ks,q.1 ≠ kx) (h:Q none s):wpAny (model prog w) A (setFind a (.ref px) ((tupleKind knd).hash kx)) Q E s:=by
 obtain ⟨o,es,ep,t,ho,_,hd,hE,hT⟩:=hS
 unfold setFind setFindIn
 refine wpAny_bind (wpAny_setState_of ho hd hT.fits ?_)
 dsimp only
 rw [Mi]
 simp only [Bool.false_eq_true,if_false]
 refine wpAny_bind (u7 hr hF ho hd hE hT hks hx hne fun j _=>?_)
 dsimp only
 exact wpAny_pure h
theorem in_free {neg:Bool} {a:Addr} {ks:List (List K × Addr)} {kx:List K} {px:Addr} {Q:Value->Shared->Prop} (hr:A.units + 1 < cLine) (hF:Flat knd) (hS:TSet knd s.heap a ks)
  (hks:∀ q ∈ ks,(tupleKind knd).is s.heap q.1 q.2) (hx:(tupleKind knd).is s.heap kx px) (hne:∀ q ∈ ks,q.1 ≠ kx) (h:Q (.bool false) { s with toks:=s.toks + (tupleKind knd).draws kx }) :
  wpAny (model prog w) A (compareOp .In (.ref px) (.ref a)) Q E s:=by
 show wpAny _ _ (do return .bool (<-contains (.ref a) (.ref px))) Q E s
 refine wpAny_bind ?_
 unfold contains
 try with_reducible refine wpAny_holding ?_
 refine wpAny_bind (wpAny_specialOf hS.typeIs F.slot_set_contains.lookup ?_)
 show wpAny _ _ (if (some (Value.builtin "set.__contains__") == some Value.none) = true then _ else _) _ E s
 rw [if_neg (by rw [beq_builtin_none]; exact Bool.false_ne_true)]
 refine wpAny_bind (wpAny_callSpecialUnlessNone?_slot (name:=Str.ofString "__contains__") hS.typeIs F.slot_set_contains
  (wpAny_call_entry F.slot_set_contains hS.typeIs entry_set_contains ?_ (F.args_set_contains_2 _ _)))
 unfold Builtin.«frozenset.__contains__» Builtin.Frozenset.oneOther
 simp only [List.isEmpty_nil,bind_assoc]
 unfold Builtin.Frozenset.addrOf Builtin.Frozenset.withSetAsKey setContains
 refine wpAny_bind (wpAny_pure ?_)
 try dsimp only
 refine wpAny_bind (wpAny_pure ?_)
 try dsimp only
 refine wpAny_bind (wpAny_tryCatch ?_)
 refine wpAny_holding ?_
 refine wpAny_bind ((tupleKind knd).pyHash ?hroom hx ?_)
 case hroom=>exact hr
 refine wpAny_bind (Pm (s:={ s with toks:=s.toks + (tupleKind knd).draws kx }) ?hroom hF hS hks hx hne ?_)
 case hroom=>exact hr
 refine wpAny_pure ?_
 show wpAny _ _ (ret (Value.bool false)) _ _ _
 exact wpAny_pure ⟨_,rfl,wpAny_truthy_bool (wpAny_pure h)⟩
end
end ST
namespace ST
open PySem
section
variable {prog:Program} {w:World} {K:Type} [DecidableEq K] {knd:KeyKind prog w K} {A:Around} {E:Value->Shared->Prop} {s:Shared}
noncomputable def Scan (knd:KeyKind prog w K):Prop:=∀ v,(∃ x,knd.is x v = true)->v.scannable = true
theorem hbv {kx:List K} {px:Addr} {Q:Bool->Shared->Prop} (hB:Scan knd) (hx:(tupleKind knd).is s.heap kx px) (h:∀ b,Q b s):wpAny (model prog w) A (hashByValue 8 (.ref px)) Q E s:=by
 obtain ⟨o,items,n,ho,hc,hd,hi⟩:=hx
 have hT:s.TypeIs (.ref px) "tuple":=⟨o,ho,hc⟩
 unfold hashByValue
 refine wpAny_bind (wpAny_specialOf hT F.slot_tuple_hash.lookup ?_)
 dsimp only
 refine wpAny_bind (wpAny_seqItems ho hd ?_)
 dsimp only [Option.getD_some]
 rw [<-Array.forIn_toList]
 refine wpAny_bind (wpAny_mono (wpAny_forIn_list _ (fun rest c s'=>s' = s/\c = (none,())/\∀ v ∈ rest,v ∈ items.toList) (fun c s'=>s' = s/\(c = (none,())\/c = (some false,()))) ?_ ?_ _ _ ⟨rfl,rfl,fun _ z=>z⟩) ?_ fun _ _ q=>q)
 ·rintro v rest c s' ⟨rfl,rfl,hr⟩
  rw [hashByValue_scannable _ (hB v (Gu hi v (hr v (List.mem_cons_self ..))))]
  refine wpAny_bind (wpAny_pure ?_)
  cases plainKind v with
  | true =>
   simp only [Bool.not_true,Bool.false_eq_true,if_false]
   exact wpAny_pure ⟨rfl,rfl,fun u hu=>hr u (List.mem_cons_of_mem _ hu)⟩
  | false =>
   simp only [Bool.not_false,if_true]
   exact wpAny_pure ⟨rfl,.inr rfl⟩
 ·rintro c s' ⟨rfl,rfl,_⟩
  exact ⟨rfl,.inl rfl⟩
 ·rintro c s' ⟨rfl,rfl | rfl⟩
  ·exact wpAny_pure (h _)
  ·exact wpAny_pure (h _)
theorem W9 {α:Type} (xs:Array α) (p:Nat) (x:α) (hp:p<=xs.size):(SetTable.insertAt xs p x).size = xs.size + 1:=by
 unfold SetTable.insertAt
 rw [Array.size_append,Array.size_push,Array.size_extract,Array.size_extract]
 omega
theorem Db {α:Type} (xs:Array α) (p:Nat) (x:α) (hp:p<=xs.size):(SetTable.insertAt xs p x).toList.Perm (xs.toList ++ [x]):=by
 unfold SetTable.insertAt
 rw [Array.toList_append,Array.toList_push,Array.toList_extract,Array.toList_extract]
 simp only [List.extract_eq_take_drop,List.drop_zero,Nat.sub_zero]
 have e:List.take (xs.size - p) (List.drop p xs.toList) = List.drop p xs.toList:=by
  rw [List.take_of_length_le]
  rw [List.length_drop,Array.length_toList]
  omega
 rw [e]
 have e2:xs.toList = xs.toList.take p ++ xs.toList.drop p:=(List.take_append_drop ..).symm
 conv=>rhs; rw [e2]
 rw [List.append_assoc,List.append_assoc]
 exact List.Perm.append_left _ List.perm_append_comm
theorem U9 (xs:Array Nat) (j:Nat):∀ (f lo hi:Nat),lo<=hi->SetTable.below.go xs j f lo hi<=hi
 | 0,lo,hi,h=>h
 | f + 1,lo,hi,h=>by
  unfold SetTable.below.go
  split
  ·rename_i h'
   dsimp only
   split
   ·exact U9 xs j f _ _ (by omega)
   ·exact Nat.le_trans (U9 xs j f _ _ (by omega)) (by omega)
  ·exact h
theorem Sj (xs:Array Nat) (j:Nat):SetTable.below xs j<=xs.size:=U9 xs j _ _ _ (Nat.zero_le _)
theorem Yg {t:SetTable} (hd:t.dummies = #[]) (j:Nat):t.put j = ({ t with place:=SetTable.insertAt t.place (SetTable.below t.place j) j },SetTable.below t.place j):=by
 unfold SetTable.put
 have:SetTable.has t.dummies j = false:=by
  rw [hd]; unfold SetTable.has; simp
 rw [this]
 rfl
theorem zCk:SetTable.sizeAbove 20 = 32:=by decide
theorem zCh:SetTable.sizeAbove 76 = 128:=by decide
theorem zBk:SetTable.sizeAbove 308 = 512:=by decide
theorem Qm {f:Array (Int × Value)->Option (SetTable × Array Nat)->Sem (Array (Int × Value) × SetTable)} (hf:∀ es laid,f es laid = (do
  let some (t,order):=laid | unsupported "internal:set-table-without-room"
  let es':=order.filterMap (es[·]?)
  if es'.size != es.size then unsupported "internal:set-table-lost-an-element"
  pure (es',t)))
  {a:Addr} {o:Obj} {es:Array (Int × Value)} {ep:Nat} {t:SetTable} {n m:Nat} {Q:Unit->Shared->Prop} (ho:s.heap.get? a = some o) (hd:o.data = .set es ep t) (hdm:t.dummies = #[]) (hfit:t.fits es.size = true)
  (hm:SetTable.sizeAbove n = m + 1) (hmm:Msk m) (hsz:es.size * 5 < m * 3)
  (h:∀ (es':Array (Int × Value)) (t':SetTable),es'.toList.Perm es.toList->Tab t' es'.size->Q () { s with heap:=s.heap.update a (Obj.putSet es' t') }) :
  wpAny (model prog w) A (do
   let (es,_,t) <-setState a
   if SetTable.sizeAbove n > sizeLine then unsupported "set:memory"
   let (es,t) <-f es (t.relaid (es.map (·.1)) n)
   storeSet a es t) Q E s:=by
 refine wpAny_bind (wpAny_setState_of ho hd hfit ?_)
 dsimp only
 have hm512:m<=511:=by rcases hmm with e | e | e | e <;> omega
 rw [hm,if_neg (by rw [sizeLine_eq]; omega)]
 rw [hf]
 have hs:(es.map (·.1)).size<=m:=by rw [Array.size_map]; omega
 obtain ⟨place,order,e1,e2,e3⟩:=Va hmm t.finger (t.movedTo (SetTable.sizeAbove n - 1)) t.led t.plain (es.map (·.1)) hs
 have e0:t.relaid (es.map (·.1)) n = some ({ mask:=m,place,dummies:=#[],finger:=t.finger,led:=t.led,moves:=t.movedTo (SetTable.sizeAbove n - 1),plain:=t.plain },order):=by
  unfold SetTable.relaid
  rw [hm]
  rw [hm] at e1
  exact e1
 rw [e0]
 dsimp only
 have hp:(order.filterMap (es[·]?)).toList.Perm es.toList:=Rk (by rw [Array.size_map] at e3; exact e3)
 have hz:(order.filterMap (es[·]?)).size = es.size:=by rw [<-Array.length_toList,hp.length_eq,Array.length_toList]
 rw [if_neg (by rw [hz]; simp)]
 refine wpAny_bind (wpAny_pure ?_)
 dsimp only
 refine wpAny_storeSet_of ho hd (h _ _ hp ⟨rfl,?_,hmm,?_⟩) (by rw [hz,sizeLine_eq]; omega)
 ·rw [hz,e2,Array.size_map]
 ·rw [hz]; exact hsz
theorem Cl {h:Heap} {a:Addr} {o:Obj} {es:Array (Int × Value)} {ep:Nat} {t:SetTable} (ho:h.get? a = some o) (hd:o.data = .set es ep t) (es':Array (Int × Value)) (t':SetTable) :
  (h.update a (Obj.putSet es' t')).get? a = some { o with data:=.set es' (ep + 1) t' }:=by
 have:=Heap.get?_update_self (Obj.putSet es' t') ho (by rw [putSet_of es' t' hd]; rfl)
 rw [putSet_of es' t' hd] at this; exact this
theorem La {a:Addr} {ks:List (List K × Addr)} {kx:List K} {px:Addr} {Q:Bool->Shared->Prop} (hr:(tupleKind knd).room A) (hF:Flat knd) (hB:Scan knd) (hS:TSet knd s.heap a ks)
  (hks:∀ q ∈ ks,(tupleKind knd).is s.heap q.1 q.2) (hx:(tupleKind knd).is s.heap kx px) (hne:∀ q ∈ ks,q.1 ≠ kx) (hl:ks.length + 1<=300)
  (h:∀ h',Heap.SameBut a s.heap h'->TSet knd h' a (ks ++ [(kx,px)])->Q true { s with heap:=h' }) :
  wpAny (model prog w) A (setAddHashed a (.ref px) ((tupleKind knd).hash kx)) Q E s:=by
 obtain ⟨o,es,ep,t,ho,hex,hd,hE,hT⟩:=hS
 have hsz:es.size = ks.length:=by
  have:=hE.length_eq
  rw [Array.length_toList,List.length_map] at this; exact this
 unfold setAddHashed setAddHashedIn
 refine wpAny_holding ?_
 refine wpAny_bind (wpAny_setState_of ho hd hT.fits ?_)
 dsimp only
 rw [Mi]
 simp only [Bool.false_eq_true,if_false]
 refine wpAny_bind (u7 hr hF ho hd hE hT hks hx hne fun j hj=>?_)
 dsimp only
 refine wpAny_bind (wpAny_setState_of ho hd hT.fits ?_)
 dsimp only
 rw [Yg hT.dm]
 dsimp only
 have hb:=Sj t.place j
 have hb':SetTable.below t.place j<=es.size:=by rw [hT.pl] at hb; exact hb
 have hrm:=hT.rm
 have hmm:=hT.mm
 have hsz1:=W9 es (SetTable.below t.place j) ((tupleKind knd).hash kx,Value.ref px) hb'
 have hpm:=Db es (SetTable.below t.place j) ((tupleKind knd).hash kx,Value.ref px) hb'
 have hE1:∀ es':Array (Int × Value),es'.toList.Perm (SetTable.insertAt es (SetTable.below t.place j) ((tupleKind knd).hash kx,Value.ref px)).toList->Els knd es' (ks ++ [(kx,px)]):=fun es' hp=>by
  unfold Els
  rw [List.map_append]
  exact hp.trans (hpm.trans (hE.append_right _))
 have key:∀ t1:SetTable,t1.dummies = #[]->t1.mask = t.mask->t1.place.size = es.size + 1->wpAny (model prog w) A (do
   storeSet a (SetTable.insertAt es (SetTable.below t.place j) ((tupleKind knd).hash kx,Value.ref px)) t1
   if (!false && t1.tooFull) = true then do
    setRelay a (SetTable.grown (es.size + 1))
    pure true
   else pure true) Q E s:=by
  intro t1 d1 m1 p1
  refine wpAny_bind (wpAny_storeSet_of ho hd ?_ (by rw [hsz1,sizeLine_eq]; omega))
  have ho1:=Cl ho hd (SetTable.insertAt es (SetTable.below t.place j) ((tupleKind knd).hash kx,Value.ref px)) t1
  have sb1:=Heap.SameBut.update s.heap a (Obj.putSet (SetTable.insertAt es (SetTable.below t.place j) ((tupleKind knd).hash kx,Value.ref px)) t1)
  have htf:t1.tooFull = decide ((es.size + 1) * 5 ≥ t.mask * 3):=by
   unfold SetTable.tooFull SetTable.fill
   rw [d1,m1,p1]
   rfl
  rw [htf,Bool.not_false,Bool.true_and]
  by_cases hfull:(es.size + 1) * 5 ≥ t.mask * 3
  ·rw [decide_eq_true hfull,if_pos rfl]
   have hcase:∃ m,SetTable.sizeAbove (SetTable.grown (es.size + 1)) = m + 1/\Msk m/\(es.size + 1) * 5 < m * 3:=by
    have hg:SetTable.grown (es.size + 1) = (es.size + 1) * 4:=by
     unfold SetTable.grown
     rw [if_neg (by omega)]
    rw [hg]
    rcases hmm with e | e | e | e
    ·have:es.size + 1 = 5:=by omega
     rw [this]
     exact ⟨31,zCk,.inr (.inl rfl),by decide⟩
    ·have:es.size + 1 = 19:=by omega
     rw [this]
     exact ⟨127,zCh,.inr (.inr (.inl rfl)),by decide⟩
    ·have:es.size + 1 = 77:=by omega
     rw [this]
     exact ⟨511,zBk,.inr (.inr (.inr rfl)),by decide⟩
    ·omega
   obtain ⟨m,c1,c2,c3⟩:=hcase
   refine wpAny_bind ?_
   unfold setRelay
   refine Qm (fun _ _=>rfl) (s:={ s with heap:=_ }) ho1 rfl d1 ?_ c1 c2 (by rw [hsz1]; exact c3) fun es' t' hp ht=>?_
   ·unfold SetTable.fits SetTable.fill
    rw [hsz1,p1,d1,m1]
    have h300:es.size + 1 + 0<=t.mask:=by rcases hmm with e | e | e | e <;> omega
    simp
    omega
   ·refine wpAny_pure (h _ (sb1.trans (Heap.SameBut.update _ a _)) ?_)
    exact ⟨_,es',_,t',Cl ho1 rfl es' t',hex,rfl,hE1 es' hp,ht⟩
  ·rw [decide_eq_false hfull,if_neg (by decide)]
   refine wpAny_pure (h _ sb1 ⟨_,_,_,t1,ho1,hex,rfl,hE1 _ (.refl _),⟨d1,?_,?_,?_⟩⟩)
   ·rw [p1,hsz1]
   ·rw [m1]; exact hmm
   ·rw [m1,hsz1]; omega
 have hps:(SetTable.insertAt t.place (SetTable.below t.place j) j).size = es.size + 1:=by rw [W9 _ _ _ hb,hT.pl]
 cases hpl:t.plain with
 | true =>
  simp only [if_true]
  refine wpAny_bind (hbv hB hx fun b=>?_)
  cases b with
  | true =>
   simp only [if_true]
   exact key _ hT.dm rfl hps
  | false =>
   simp only [Bool.false_eq_true,if_false]
   exact key _ hT.dm rfl hps
 | false =>
  simp only [Bool.false_eq_true,if_false]
  refine wpAny_bind (wpAny_pure ?_)
  simp only [if_true]
  exact key _ hT.dm rfl hps
theorem call_add {a:Addr} {ks:List (List K × Addr)} {kx:List K} {px:Addr} {Q:Value->Shared->Prop} (hr:A.units + 1 < cLine) (hF:Flat knd) (hB:Scan knd) (hS:TSet knd s.heap a ks)
  (hks:∀ q ∈ ks,(tupleKind knd).is s.heap q.1 q.2) (hx:(tupleKind knd).is s.heap kx px) (hne:∀ q ∈ ks,q.1 ≠ kx) (hl:ks.length + 1<=300)
  (h:∀ h',Heap.SameBut a s.heap h'->TSet knd h' a (ks ++ [(kx,px)])->Q .none { s with heap:=h',toks:=s.toks + (tupleKind knd).draws kx }) :
  wpAny (model prog w) A (call (.builtin "set.add") [.ref a,.ref px]) Q E s:=by
 refine wpAny_call_entry F.slot_set_add hS.typeIs F.entry_set_add ?_ (F.args_set_add_2 _ _)
 unfold Builtin.«set.add» Builtin.Frozenset.oneOther
 simp only [List.isEmpty_nil,bind_assoc]
 unfold Builtin.Frozenset.addrOf setAdd
 refine wpAny_bind (wpAny_pure ?_)
 try dsimp only
 refine wpAny_bind (wpAny_pure ?_)
 try dsimp only
 refine wpAny_bind ?_
 refine wpAny_holding ?_
 refine wpAny_bind ((tupleKind knd).pyHash ?hroom hx ?_)
 case hroom=>exact hr
 refine La (s:={ s with toks:=s.toks + (tupleKind knd).draws kx }) ?hroom hF hB hS hks hx hne hl fun h' hsb hS'=>?_
 case hroom=>exact hr
 show wpAny _ _ (ret Value.none) _ _ _
 exact wpAny_pure ⟨_,rfl,h h' hsb hS'⟩
end
end ST
namespace ST
open PySem
theorem Iw:Manifest.owners.lookup (String.ofList ['r','o','t','a','r','e','t','i','_','t','e','s'].reverse) = some Manifest.sig_set_iterator:=by kernel_rfl
theorem slot_si_next:Slot "set_iterator" "__next__" "set_iterator.__next__" :=
 .of (owner := "set_iterator") (n := "__next__") (by rw [typeLookup_type,builtinLookup_eq_fast]; kernel_rfl) (by decide +kernel) (by decide +kernel) (by decide +kernel) (by first | exact .inl (by decide +kernel) | exact .inr (by decide +kernel)) (by rw [isSubtype_type]; kernel_rfl)
theorem Y0:entryFor table "set_iterator.__next__" = some Builtin.«set_iterator.__next__»:=entryFor_of_tree (by kernel_rfl)
theorem c9 (a:Value):argsOk "set_iterator.__next__" ⟨[a],[]⟩:=by
 unfold argsOk; rw [signature?_of (id := "set_iterator.__next__") (n:=['_','_','t','x','e','n','_','_']) (o:=['r','o','t','a','r','e','t','i','_','t','e','s']) (by kernel_rfl) Iw]; kernel_rfl
theorem i9:Slot "set_iterator" "__iter__" "set_iterator.__iter__" :=
 .of (owner := "set_iterator") (n := "__iter__") (by rw [typeLookup_type,builtinLookup_eq_fast]; kernel_rfl) (by decide +kernel) (by decide +kernel) (by decide +kernel) (by first | exact .inl (by decide +kernel) | exact .inr (by decide +kernel)) (by rw [isSubtype_type]; kernel_rfl)
theorem Gy (a:Value):argsOk "set_iterator.__iter__" ⟨[a],[]⟩:=by
 unfold argsOk; rw [signature?_of (id := "set_iterator.__iter__") (n:=['_','_','r','e','t','i','_','_']) (o:=['r','o','t','a','r','e','t','i','_','t','e','s']) (by kernel_rfl) Iw]; kernel_rfl
theorem Ds:entryFor table "set_iterator.__iter__" = some Builtin.«dict_keyiterator.__iter__» :=
 entryFor_alias (id' := "dict_keyiterator.__iter__") (by kernel_rfl) (by first | rfl | decide +kernel | (unfold String.splitOn; simp +decide [String.splitOnAux])) (by decide +kernel) (by kernel_rfl)
theorem Gx:entryFor table "set.__iter__" = some Builtin.«frozenset.__iter__» :=
 entryFor_alias (id' := "frozenset.__iter__") (by kernel_rfl) rfl (by decide +kernel) (by kernel_rfl)
theorem zBd:typeLookup (.type "set") "__len__" = pure (some (.builtin "set.__len__")):=by rw [typeLookup_type,builtinLookup_eq_fast]; kernel_rfl
section
variable {prog:Program} {w:World} {A:Around} {E:Value->Shared->Prop} {s:Shared}
theorem Od {n:Nat} {Q:Nat->Shared->Prop} (hn:n ≠ 0) (h:∀ i d,i < n->Q i { s with drawn:=d }):wpAny (model prog w) A (choose .order n) Q E s:=fun Γ p hΓ=>by
 unfold choose
 rw [Sem.wp_choose]
 exact ⟨hn,h _ _ (Nat.mod_lt _ (Nat.pos_of_ne_zero hn))⟩
theorem erase_perm {α:Type}:∀ {l:List α} {i:Nat} {x:α},l[i]? = some x->(x :: l.eraseIdx i).Perm l
 | [],i,x,h=>by simp at h
 | y :: l,0,x,h=>by
  have:y = x:=by simpa using h
  subst this
  exact .refl _
 | y :: l,i + 1,x,h=>by
  have h':l[i]? = some x:=by simpa using h
  exact (List.Perm.swap y x _).trans ((erase_perm h').cons y)
theorem Gd {α:Type} {l:List α} {i:Nat} {x:α} (h:l[i]? = some x):(l.eraseIdx i).length + 1 = l.length:=(erase_perm h).length_eq
theorem Px {α:Type}:∀ (n:Nat) (l:List α) (s:Shared) (Q:List α->Shared->Prop),l.length = n->(∀ l' d,l'.Perm l->Q l' { s with drawn:=d })->wpAny (model prog w) A (drawOrder n l) Q E s
 | 0,l,s,Q,hl,h=>by
  unfold drawOrder
  obtain rfl:=List.length_eq_zero_iff.mp hl
  exact wpAny_pure (h [] s.drawn (.refl _))
 | n + 1,[],s,Q,hl,h=>by simp at hl
 | n + 1,x :: xs,s,Q,hl,h=>by
  unfold drawOrder
  refine wpAny_bind (Od (by simp) fun i d hi=>?_)
  have e:(x :: xs)[i]? = some ((x :: xs)[i]):=List.getElem?_eq_getElem hi
  rw [e]
  dsimp only
  have hp:=erase_perm e
  refine wpAny_bind (Px n _ _ _ (by have:=Gd e; omega) fun l' d' hp'=>?_)
  exact wpAny_pure (h _ d' ((hp'.cons _).trans hp))
theorem Mb {α:Type} (nx:Nat->Nat):∀ (f k:Nat) (left:List α) (out:Array α),left.length = f->(pickOrder.go nx f k left out).toList.Perm (out.toList ++ left)
 | 0,k,left,out,h=>by
  obtain rfl:=List.length_eq_zero_iff.mp h
  unfold pickOrder.go
  simp
 | f + 1,k,left,out,h=>by
  have hlt:nx k % left.length < left.length:=Nat.mod_lt _ (by omega)
  have e:left[nx k % left.length]? = some left[nx k % left.length]:=List.getElem?_eq_getElem hlt
  unfold pickOrder.go
  rw [e]
  dsimp only
  have hp:=erase_perm e
  refine (Mb nx f (k + 1) _ _ (by have:=Gd e; omega)).trans ?_
  rw [Array.toList_push,List.append_assoc]
  exact hp.append_left _
theorem Ac {α:Type} (nx:Nat->Nat) (xs:Array α):(pickOrder nx xs).toList.Perm xs.toList:=by
 unfold pickOrder
 have:=Mb nx xs.size 0 xs.toList #[] (Array.length_toList ..)
 simpa using this
structure SAt (w:World) (h:Heap) (a:Addr) (o:Obj) (es:Array (Int × Value)) (ep:Nat) (t:SetTable):Prop where
 ho:h.get? a = some o
 ex:o.ExactSet
 hd:o.data = .set es ep t
 ft:t.fits es.size = true
 led:t.led = !(w.params.followText "set-order")
 pln:t.plain = true->es.size = 0
 few:es.size < 4096
noncomputable def sIt (first:Value) (i n ep:Nat) (a:Addr):Obj:={ cls:=.type "set_iterator",data:=.fields #[first,rawInt i,.ref a,rawInt n,rawInt ep] }
theorem O6 {Q:Bool->Shared->Prop} (h:Q (w.params.followText "set-order") s):wpAny (model prog w) A setsByText Q E s:=by
 unfold setsByText
 exact wpAny_bind (wpAny_askSetting (wpAny_pure h))
variable {a it:Addr} {o:Obj} {es:Array (Int × Value)} {ep:Nat} {t:SetTable}
theorem o9 {i sl:Nat} {r:Option (Value × Nat)} {Q:Option Value->Shared->Prop} (hh:A.handled = none) (S:SAt w s.heap a o es ep t) (hne:it ≠ a) (hi:s.heap.get? it = some (sIt (rawInt sl) i es.size ep a))
  (hin:∀ (Q':Option (Value × Nat)->Shared->Prop) (A':Around) (E':Value->Shared->Prop),Q' r s->wpAny (model prog w) A' (setNext a sl i ep) Q' E' s)
  (hQ1:∀ x nx h',r = some (x,nx)->h'.get? it = some (sIt (rawInt nx) (i + 1) es.size ep a)->Heap.SameBut it s.heap h'->Q (some x) { s with heap:=h' })
  (hQ0:r = none->∀ h',Heap.ExtBut it s.heap h'->Q none { s with heap:=h' }):wpAny (model prog w) A (pyNext (.ref it)) Q E s:=by
 have hT:s.TypeIs (.ref it) "set_iterator":=⟨_,hi,rfl⟩
 unfold pyNext
 refine wpAny_bind (wpAny_attempt (wpAny_callSpecial?_slot (name:=Str.ofString "__next__") hT slot_si_next (wpAny_call_entry slot_si_next hT Y0 ?_ (c9 _))))
 unfold Builtin.«set_iterator.__next__»
 refine wpAny_bind (wpAny_of_eq (a:=(Value.ref it,[])) rfl ?_)
 dsimp only
 refine wpAny_bind (wpAny_fieldsOf hi rfl ?_)
 dsimp only [rawInt]
 refine wpAny_bind (wpAny_setEntries_of S.ho S.hd S.ft ?_)
 rw [if_neg (by simp)]
 simp only [Int.toNat_natCast]
 refine wpAny_bind (hin _ _ _ ?_)
 cases r with
 | some p =>
  obtain ⟨x,nx⟩:=p
  dsimp only
  refine wpAny_bind (wpAny_setField hi rfl (by simp) ?_)
  have h1:=Heap.get?_update_self (Obj.mapFields (·.setIfInBounds 0 (rawInt (nx:Nat)))) hi rfl
  refine wpAny_bind (wpAny_setField h1 rfl (by simp) ?_)
  have h2:=Heap.get?_update_self (Obj.mapFields (·.setIfInBounds 1 (rawInt ((i:Int) + 1)))) h1 rfl
  refine wpAny_pure ⟨x,rfl,wpAny_pure (hQ1 x nx _ rfl ?_ ((Heap.SameBut.update ..).trans (Heap.SameBut.update ..)))⟩
  exact h2
 | none =>
  dsimp only
  refine wpAny_bind (wpAny_setField hi rfl (by simp) ?_)
  refine wpAny_bind ?_
  simp only [newExc,newTuple]
  refine wpAny_bind (wpAny_newObj_type ?_ (by size_fits))
  refine wpAny_bind (m:=firstArgMember _ _) (wpAny_of_eq (a:=Value.none) (by first | rfl | (simp only [firstArgMember]; rfl)) ?_)
  refine wpAny_newObj_type ?_ (by size_fits)
  simp only [raiseNew]
  refine wpAny_bind (wpAny_handled ?_)
  first | rw [show A.in1.handled = none from hh] | rw [hh]
  refine wpAny_bind (wpAny_pure (wpAny_throw ?_))
  refine wpAny_bind (wpAny_isInstance (T := "StopIteration") (b:=true) ⟨_,Heap.get?_push_size _ rfl,rfl⟩ isSubtype_stop ?_)
  exact wpAny_pure (hQ0 rfl _ ((Heap.ExtBut.push (Heap.ExtBut.push (fun b o hb e=>(Heap.get?_update_other _ _ (Ne.symm hb)).trans e) _)) _))
end
end ST
namespace ST
open PySem
noncomputable def Wx (ps:List Nat):Obj:={ cls:=.type "tuple",data:=.seq (ps.map fun (i:Nat)=>rawInt i).toArray }
section
variable {prog:Program} {w:World} {A:Around} {E:Value->Shared->Prop} {s:Shared} {a it T:Addr} {o:Obj} {es:Array (Int × Value)} {ep:Nat} {t:SetTable}
theorem Jz {i:Nat} {ps:List Nat} {Q:Option Value->Shared->Prop} (hh:A.handled = none) (S:SAt w s.heap a o es ep t) (hi:s.heap.get? it = some (sIt (.ref T) i es.size ep a)) (hT:s.heap.get? T = some (Wx ps))
  (hQ1:∀ p x h',ps[i]? = some p->es[p]? = some x->h'.get? it = some (sIt (.ref T) (i + 1) es.size ep a)->Heap.SameBut it s.heap h'->Q (some x.2) { s with heap:=h' }) (hps:∀ p ∈ ps,p < es.size)
  (hQ0:ps.length<=i->∀ h',Heap.ExtBut it s.heap h'->Q none { s with heap:=h' }):wpAny (model prog w) A (pyNext (.ref it)) Q E s:=by
 have hTy:s.TypeIs (.ref it) "set_iterator":=⟨_,hi,rfl⟩
 unfold pyNext
 refine wpAny_bind (wpAny_attempt (wpAny_callSpecial?_slot (name:=Str.ofString "__next__") hTy slot_si_next (wpAny_call_entry slot_si_next hTy Y0 ?_ (c9 _))))
 unfold Builtin.«set_iterator.__next__»
 refine wpAny_bind (wpAny_of_eq (a:=(Value.ref it,[])) rfl ?_)
 dsimp only
 refine wpAny_bind (wpAny_fieldsOf hi rfl ?_)
 dsimp only [rawInt]
 refine wpAny_bind (wpAny_setEntries_of S.ho S.hd S.ft ?_)
 rw [if_neg (by simp)]
 simp only [Int.toNat_natCast]
 refine wpAny_bind (wpAny_seqItems hT rfl ?_)
 dsimp only
 cases e:ps[i]? with
 | some p =>
  have e':(ps.map fun (i:Nat)=>Value.int (i:Int) 0).toArray[i]? = some (.int (p:Int) 0):=by
   rw [List.getElem?_toArray,List.getElem?_map,e]; rfl
  have e'':(ps.map fun (i:Nat)=>rawInt i).toArray[i]? = some (.int (p:Int) 0):=e'
  rw [e'']
  have hp:p < es.size:=hps p (List.mem_of_getElem? e)
  obtain ⟨x,hx⟩:∃ x,es[p]? = some x:=⟨es[p],Array.getElem?_eq_some_iff.mpr ⟨hp,rfl⟩⟩
  dsimp only
  simp only [Int.toNat_natCast]
  unfold setNextDrawn
  refine wpAny_bind (wpAny_bind (wpAny_setState_of S.ho S.hd S.ft ?_))
  dsimp only
  rw [if_neg (by simp),hx]
  dsimp only
  refine wpAny_pure ?_
  refine wpAny_bind (wpAny_setField hi rfl (by simp) ?_)
  have h2:=Heap.get?_update_self (Obj.mapFields (·.setIfInBounds 1 (rawInt ((i:Int) + 1)))) hi rfl
  exact wpAny_pure ⟨x.2,rfl,wpAny_pure (hQ1 p x _ e hx h2 (Heap.SameBut.update ..))⟩
 | none =>
  have e'':(ps.map fun (i:Nat)=>rawInt i).toArray[i]? = none:=by
   rw [List.getElem?_toArray,List.getElem?_map,e]; rfl
  rw [e'']
  dsimp only
  refine wpAny_bind (wpAny_setField hi rfl (by simp) ?_)
  have h1:=Heap.get?_update_self (Obj.mapFields (·.setIfInBounds 0 (rawInt 0))) hi rfl
  refine wpAny_bind (wpAny_setField h1 rfl (by simp) ?_)
  refine wpAny_bind ?_
  simp only [newExc,newTuple]
  refine wpAny_bind (wpAny_newObj_type ?_ (by size_fits))
  refine wpAny_bind (m:=firstArgMember _ _) (wpAny_of_eq (a:=Value.none) (by first | rfl | (simp only [firstArgMember]; rfl)) ?_)
  refine wpAny_newObj_type ?_ (by size_fits)
  simp only [raiseNew]
  refine wpAny_bind (wpAny_handled ?_)
  rw [show A.in1.handled = none from hh]
  refine wpAny_bind (wpAny_pure (wpAny_throw ?_))
  refine wpAny_bind (wpAny_isInstance (T := "StopIteration") (b:=true) ⟨_,Heap.get?_push_size _ rfl,rfl⟩ isSubtype_stop ?_)
  refine wpAny_pure (hQ0 (List.getElem?_eq_none_iff.mp e) _ (Heap.ExtBut.push (Heap.ExtBut.push (fun b ob hb eb=>?_) _) _))
  exact (Heap.get?_update_other _ _ (Ne.symm hb)).trans ((Heap.get?_update_other _ _ (Ne.symm hb)).trans eb)
noncomputable def zBo (w:World) (a T:Addr) (es:Array (Int × Value)) (ep:Nat) (t:SetTable) (order:List Value) (i:Nat) (h:Heap) (first:Value):Prop :=
 (w.params.followText "set-order" = true/\first = rawInt (0:Nat)/\order = (pickOrder (w.params.setOrder a ep) es).toList.map (·.2)) \/
 (w.params.followText "set-order" = false/\∃ ps:List Nat,first = .ref T/\h.get? T = some (Wx ps)/\ps.Perm (List.range es.size)/\order = ps.filterMap fun p=>es[p]?.map (·.2)) \/
 (w.params.followText "set-order" = false/\es.size<=1/\order = es.toList.map (·.2)/\∃ sl:Nat,first = rawInt sl/\(i = 0->sl = 0)/\(i = 1->∃ j,t.place = #[j]/\sl = j + 1))
noncomputable def SSt (w:World) (a it T:Addr) (o:Obj) (es:Array (Int × Value)) (ep:Nat) (t:SetTable) (order:List Value) (i:Nat) (h:Heap):Prop :=
 SAt w h a o es ep t/\∃ first,h.get? it = some (sIt first i es.size ep a)/\zBo w a T es ep t order i h first
theorem SAt.at {h h':Heap} (S:SAt w h a o es ep t) (e:h'.get? a = some o):SAt w h' a o es ep t:=⟨e,S.ex,S.hd,S.ft,S.led,S.pln,S.few⟩
theorem Zs (j:Nat):SetTable.below #[j] 0 = 0:=by simp [SetTable.below,SetTable.below.go]
theorem Yi (j:Nat):SetTable.below #[j] (j + 1) = 1:=by simp [SetTable.below,SetTable.below.go]
theorem Rx (S:SAt w s.heap a o es ep t):t.place.size = es.size:=by
 have:=S.ft
 unfold SetTable.fits at this
 rw [Bool.and_eq_true] at this
 simpa using this.1
theorem Os (hh:A.handled = none) {order:List Value} (hia:it ≠ a) (hiT:it ≠ T):Walks prog w A it [it,a,T] [it] es.size (fun i v=>order[i]? = some v) (SSt w a it T o es ep t order) where
 sub:=fun b hb=>by simp at hb; simp [hb]
 frame:=fun i h h' ⟨S,first,hi,hm⟩ k=>by
  refine ⟨S.at (k a (by simp) _ S.ho),first,k it (by simp) _ hi,?_⟩
  rcases hm with z | ⟨z1,ps,z2,z3,z4,z5⟩ | z
  ·exact .inl z
  ·exact .inr (.inl ⟨z1,ps,z2,k T (by simp) _ z3,z4,z5⟩)
  ·exact .inr (.inr z)
 item:=fun i s Q E hlt ⟨S,first,hi,hm⟩ hQ=>by
  have keep:∀ h',Heap.SameBut it s.heap h'->∀ b ob,b ∉ [it]->s.heap.get? b = some ob->h'.get? b = some ob:=fun h' hs b ob hb e=>(hs.2 b (by simpa using hb)).trans e
  rcases hm with ⟨z1,rfl,z3⟩ | ⟨z1,ps,rfl,z3,z4,z5⟩ | ⟨z1,z2,z3,sl,rfl,z5,z6⟩
  ·have hpk:=Ac (w.params.setOrder a ep) es
   have hlen:(pickOrder (w.params.setOrder a ep) es).size = es.size:=by rw [<-Array.length_toList,hpk.length_eq,Array.length_toList]
   obtain ⟨x,hx⟩:∃ x,(pickOrder (w.params.setOrder a ep) es)[i]? = some x:=⟨_,Array.getElem?_eq_some_iff.mpr ⟨by rw [hlen]; exact hlt,rfl⟩⟩
   refine o9 (r:=some (x.2,0)) hh S hia hi (fun Q' A' E' q=>?_) (fun y nx h' e1 e2 hs=>?_) (fun e=>nomatch e)
   ·unfold setNext setWalk
    refine wpAny_bind (wpAny_setState_of S.ho S.hd S.ft ?_)
    dsimp only
    refine wpAny_bind (O6 ?_)
    rw [z1,if_pos rfl,if_neg (by simp)]
    refine wpAny_bind (wpAny_bind (wpAny_setState_of S.ho S.hd S.ft ?_))
    dsimp only
    refine wpAny_bind (O6 ?_)
    rw [z1,if_pos rfl]
    refine wpAny_bind (wpAny_askSetting (wpAny_pure (wpAny_pure ?_)))
    show Q' (((pickOrder (w.params.setOrder a ep) es)[i]?).map fun e=>(e.2,0)) s
    rw [hx]
    exact q
   ·cases e1
    have:=hQ x.2 h' s.toks (by rw [z3,List.getElem?_map,Array.getElem?_toList,hx]; rfl) ⟨S.at ((hs.2 a (Ne.symm hia)).trans S.ho),_,e2,.inl ⟨z1,rfl,z3⟩⟩ (keep h' hs)
    exact this
  ·refine Jz hh S hi z3 (fun p x h' e1 e2 e3 hs=>?_) (fun p hp=>List.mem_range.mp (z4.mem_iff.mp hp)) (fun hle=>?_)
   ·have hall:∀ q ∈ ps,(es[q]?.map (·.2)).isSome = true:=fun q hq=>by
     have:q < es.size:=List.mem_range.mp (z4.mem_iff.mp hq)
     rw [Array.getElem?_eq_some_iff.mpr ⟨this,rfl⟩]; rfl
    refine hQ x.2 h' s.toks ?_ ⟨S.at ((hs.2 a (Ne.symm hia)).trans S.ho),_,e3,.inr (.inl ⟨z1,ps,rfl,(hs.2 T (Ne.symm hiT)).trans z3,z4,z5⟩)⟩ (keep h' hs)
    have gen:∀ (l:List Nat) (i p:Nat),(∀ q ∈ l,(es[q]?.map (·.2)).isSome = true)->l[i]? = some p->(l.filterMap fun p=>es[p]?.map (·.2))[i]? = es[p]?.map (·.2):=by
     intro l
     induction l with
     | nil=>intro i p _ e; simp at e
     | cons q r ih =>
      intro i p hl e
      obtain ⟨v,hv⟩:=Option.isSome_iff_exists.mp (hl q (List.mem_cons_self ..))
      rw [List.filterMap_cons,hv]
      dsimp only
      cases i with
      | zero =>
       have:q = p:=by simpa using e
       subst this
       simpa using hv.symm
      | succ i=>simpa using ih i p (fun q hq=>hl q (List.mem_cons_of_mem _ hq)) (by simpa using e)
    rw [z5,gen ps i p hall e1,e2]
    rfl
   ·have:=z4.length_eq
    rw [List.length_range] at this
    omega
  ·have h0:i = 0:=by omega
   have h1:es.size = 1:=by omega
   obtain ⟨j,hj⟩:∃ j,t.place = #[j]:=Array.size_eq_one_iff.mp ((Rx S).trans h1)
   obtain ⟨x,hx⟩:∃ x,es = #[x]:=Array.size_eq_one_iff.mp h1
   have hs0:=z5 h0
   subst hs0
   have hx0:es[0]? = some x:=by rw [hx]; rfl
   refine o9 (r:=some (x.2,j + 1)) hh S hia hi (fun Q' A' E' q=>?_) (fun y nx h' e1 e2 hs=>?_) (fun e=>nomatch e)
   ·unfold setNext
    refine wpAny_bind (wpAny_setState_of S.ho S.hd S.ft ?_)
    dsimp only
    refine wpAny_bind (O6 ?_)
    rw [z1,if_neg (by decide)]
    show wpAny _ _ (if (!t.plain && decide (es.size > 1)) = true then _ else _) _ _ _
    rw [if_neg (by rw [h1]; simp)]
    show wpAny _ _ (do (if (!t.led && !es.isEmpty) = true then unsupported "set:maker-not-led" else pure ()); _) _ _ _
    rw [S.led,z1,if_neg (by simp)]
    refine wpAny_bind (wpAny_pure ?_)
    rw [hj,Zs,hx0]
    exact wpAny_pure q
   ·cases e1
    refine hQ x.2 h' s.toks (by rw [z3,h0,hx]; rfl) ⟨S.at ((hs.2 a (Ne.symm hia)).trans S.ho),_,e2,.inr (.inr ⟨z1,z2,z3,j + 1,rfl,fun e=>by omega,fun _=>⟨j,hj,rfl⟩⟩)⟩ (keep h' hs)
 done:=fun s Q E ⟨S,first,hi,hm⟩ hQ=>by
  have keep:∀ h',Heap.ExtBut it s.heap h'->∀ b ob,b ∉ [it]->s.heap.get? b = some ob->h'.get? b = some ob:=fun h' hs b ob hb e=>hs b ob (by simpa using hb) e
  rcases hm with ⟨z1,rfl,z3⟩ | ⟨z1,ps,rfl,z3,z4,z5⟩ | ⟨z1,z2,z3,sl,rfl,z5,z6⟩
  ·have hpk:=Ac (w.params.setOrder a ep) es
   have hlen:(pickOrder (w.params.setOrder a ep) es).size = es.size:=by rw [<-Array.length_toList,hpk.length_eq,Array.length_toList]
   refine o9 (r:=none) hh S hia hi (fun Q' A' E' q=>?_) (fun y nx h' e1=>nomatch e1) (fun _ h' hs=>hQ h' s.toks (keep h' hs))
   unfold setNext setWalk
   refine wpAny_bind (wpAny_setState_of S.ho S.hd S.ft ?_)
   dsimp only
   refine wpAny_bind (O6 ?_)
   rw [z1,if_pos rfl,if_neg (by simp)]
   refine wpAny_bind (wpAny_bind (wpAny_setState_of S.ho S.hd S.ft ?_))
   dsimp only
   refine wpAny_bind (O6 ?_)
   rw [z1,if_pos rfl]
   refine wpAny_bind (wpAny_askSetting (wpAny_pure (wpAny_pure ?_)))
   show Q' (((pickOrder (w.params.setOrder a ep) es)[es.size]?).map fun e=>(e.2,0)) s
   rw [Array.getElem?_eq_none (by rw [hlen]; exact Nat.le_refl _)]
   exact q
  ·have hl:=z4.length_eq
   rw [List.length_range] at hl
   refine Jz hh S hi z3 (fun p x h' e1 e2 e3 hs=>?_) (fun p hp=>List.mem_range.mp (z4.mem_iff.mp hp)) (fun _ h' hs=>hQ h' s.toks (keep h' hs))
   have:=(List.getElem?_eq_some_iff.mp e1).1
   omega
  ·refine o9 (r:=none) hh S hia hi (fun Q' A' E' q=>?_) (fun y nx h' e1=>nomatch e1) (fun _ h' hs=>hQ h' s.toks (keep h' hs))
   unfold setNext
   refine wpAny_bind (wpAny_setState_of S.ho S.hd S.ft ?_)
   dsimp only
   refine wpAny_bind (O6 ?_)
   rw [z1,if_neg (by decide)]
   show wpAny _ _ (if (!t.plain && decide (es.size > 1)) = true then _ else _) _ _ _
   rw [if_neg (by simp; intro _; omega)]
   show wpAny _ _ (do (if (!t.led && !es.isEmpty) = true then unsupported "set:maker-not-led" else pure ()); _) _ _ _
   rw [S.led,z1,if_neg (by simp)]
   refine wpAny_bind (wpAny_pure ?_)
   have hnone:es[SetTable.below t.place sl]? = none:=by
    by_cases h0:es.size = 0
    ·exact Array.getElem?_eq_none (by rw [h0]; exact Nat.zero_le _)
    ·obtain ⟨j,hj,rfl⟩:=z6 (by omega)
     rw [hj,Yi]
     exact Array.getElem?_eq_none (by omega)
   rw [hnone]
   exact wpAny_pure q
 self:=fun i s Q E ⟨S,first,hi,hm⟩ h=>by
  have hT:s.TypeIs (.ref it) "set_iterator":=⟨_,hi,rfl⟩
  refine wpAny_pyIter_slot hT i9 (wpAny_call_entry i9 hT Ds ?_ (Gy _))
  show wpAny _ _ (ret (.ref it)) _ _ s
  exact wpAny_pure ⟨_,rfl, "set_iterator",_,hT,slot_si_next.lookup,h⟩
theorem Ss {Q:Value->Shared->Prop} (S:SAt w s.heap a o es ep t)
  (h:∀ (it T:Addr) (order:List Value) (h':Heap) (d:Drawn),it ≠ a->it ≠ T->(T = a\/s.heap.objs.size<=T)->s.heap.objs.size<=it->(∀ b ob,s.heap.get? b = some ob->h'.get? b = some ob)->order.Perm (es.toList.map (·.2))->SSt w a it T o es ep t order 0 h'->(∀ b ∈ [it,a,T],b < h'.objs.size) ->
   (∀ A':Around,A'.handled = none->Walks prog w A' it [it,a,T] [it] es.size (fun i v=>order[i]? = some v) (SSt w a it T o es ep t order))->Q (.ref it) { s with heap:=h',drawn:=d }):wpAny (model prog w) A (pyIter (.ref a)) Q E s:=by
 have hT:s.TypeIs (.ref a) "set":=⟨_,S.ho,S.ex.1⟩
 have ha:=Heap.lt_size S.ho
 refine wpAny_pyIter_slot hT F.slot_set_iter (wpAny_call_entry F.slot_set_iter hT Gx ?_ (F.args_set_iter_1 _))
 unfold Builtin.«frozenset.__iter__» Builtin.Frozenset.slot0 Builtin.Frozenset.sizeOf
 refine wpAny_bind (wpAny_bind (wpAny_of_eq (a:=(Value.ref a,[])) rfl ?_))
 dsimp only
 refine wpAny_of_eq (a:=a) rfl ?_
 refine wpAny_bind (wpAny_bind (wpAny_setEntries_of S.ho S.hd S.ft (wpAny_pure ?_)))
 have fin:∀ (first:Value) (T:Addr) (order:List Value) (h1:Heap) (d:Drawn),(∀ b ob,s.heap.get? b = some ob->h1.get? b = some ob)->s.heap.objs.size<=h1.objs.size->order.Perm (es.toList.map (·.2))->T < h1.objs.size->(T = a\/s.heap.objs.size<=T) ->
   (∀ h2:Heap,(∀ b ob,h1.get? b = some ob->h2.get? b = some ob)->zBo w a T es ep t order 0 h2 first) ->
   wpAny (model prog w) A.in1 (do let e <-setEpoch a; let x <-newFields "set_iterator" [first,rawInt 0,.ref a,rawInt (es.size:Nat),rawInt (e:Nat)]; ret x) (fun r s'=>∃ v,r = Fin.done (Flow.ret v)/\∃ T' r,s'.TypeIs v T'/\typeLookup (Value.type T') (Str.ofString "__next__") = pure (some r)/\Q v s') E { s with heap:=h1,drawn:=d }:=by
  intro first T order h1 d k hsz hp hTl hTa hm
  refine wpAny_bind (wpAny_setEpoch_of (s:={ s with heap:=h1,drawn:=d }) (k a o S.ho) S.hd S.ft ?_)
  refine wpAny_bind (wpAny_newObj_type ?_)
  have hg:(h1.push (sIt first 0 es.size ep a)).get? h1.objs.size = some (sIt first 0 es.size ep a):=Heap.get?_push_size _ rfl
  have k2:∀ b ob,h1.get? b = some ob->(h1.push (sIt first 0 es.size ep a)).get? b = some ob:=fun b ob e=>Heap.get?_push_of_some _ e
  have hia:h1.objs.size ≠ a:=fun e=>absurd (Nat.lt_of_lt_of_le ha hsz) (by rw [<-e]; exact Nat.lt_irrefl _)
  have hiT:h1.objs.size ≠ T:=fun e=>absurd hTl (by rw [<-e]; exact Nat.lt_irrefl _)
  refine wpAny_pure ⟨.ref h1.objs.size,rfl, "set_iterator",_,⟨_,hg,rfl⟩,slot_si_next.lookup,?_⟩
  refine h h1.objs.size T order (h1.push (sIt first 0 es.size ep a)) d hia hiT hTa hsz (fun b ob e=>k2 b ob (k b ob e)) hp ⟨S.at (k2 a o (k a o S.ho)),first,hg,hm _ k2⟩ (fun b hb=>?_) fun A' hh=>Os hh hia hiT
  rw [Heap.size_push]
  simp only [List.mem_cons,List.not_mem_nil,or_false] at hb
  rcases hb with rfl | rfl | rfl
  ·exact Nat.lt_succ_self _
  ·exact Nat.lt_succ_of_lt (Nat.lt_of_lt_of_le ha hsz)
  ·exact Nat.lt_succ_of_lt hTl
 unfold setDrawn
 refine wpAny_bind (wpAny_bind (wpAny_setState_of S.ho S.hd S.ft ?_))
 dsimp only
 refine wpAny_bind (O6 (wpAny_pure ?_))
 cases hb:w.params.followText "set-order" with
 | true =>
  show wpAny _ _ (if (!true && (!t.plain && decide (es.size > 1))) = true then _ else _) _ _ _
  rw [Bool.not_true,Bool.false_and,if_neg (by decide)]
  refine wpAny_bind (wpAny_pure ?_)
  exact fin _ a _ s.heap s.drawn (fun _ _ e=>e) (Nat.le_refl _) ((Ac _ es).map _) ha (.inl rfl) fun h2 _=>.inl ⟨hb,rfl,rfl⟩
 | false =>
  show wpAny _ _ (if (!false && (!t.plain && decide (es.size > 1))) = true then _ else _) _ _ _
  by_cases hdr:(!t.plain && decide (es.size > 1)) = true
  ·rw [Bool.not_false,Bool.true_and,if_pos hdr]
   refine wpAny_bind (Px es.size (List.range es.size) s _ (List.length_range ..) fun ps d hp=>wpAny_bind ?_)
   unfold newTuple
   refine wpAny_newObj_type ?_ ?_
   ·have hg:(s.heap.push (Wx ps)).get? s.heap.objs.size = some (Wx ps):=Heap.get?_push_size _ rfl
    refine fin _ s.heap.objs.size (ps.filterMap fun p=>es[p]?.map (·.2)) (s.heap.push (Wx ps)) d (fun b ob e=>Heap.get?_push_of_some _ e) (by rw [Heap.size_push]; exact Nat.le_succ _) ?_ (by rw [Heap.size_push]; exact Nat.lt_succ_self _) (.inr (Nat.le_refl _)) fun h2 k2=>.inr (.inl ⟨hb,ps,rfl,k2 _ _ hg,hp,rfl⟩)
    refine (hp.filterMap _).trans (List.Perm.of_eq ?_)
    have:=filterMap_getElem?_range es
    rw [<-this,List.map_filterMap]
   ·have h1:=hp.length_eq
    have h2:=S.few
    rw [List.length_range] at h1
    show (List.map _ ps).toArray.size<=sizeLine
    rw [List.size_toArray,List.length_map,sizeLine_eq]
    omega
  ·rw [Bool.not_false,Bool.true_and,if_neg hdr]
   refine wpAny_bind (wpAny_pure ?_)
   have hle:es.size<=1:=by
    by_cases hp:t.plain = true
    ·have:=S.pln hp; omega
    ·have hp':t.plain = false:=by simpa using hp
     rw [hp'] at hdr
     simp at hdr
     omega
   exact fin _ a _ s.heap s.drawn (fun _ _ e=>e) (Nat.le_refl _) (.refl _) ha (.inl rfl) fun h2 _=>.inr (.inr ⟨hb,hle,rfl,0,rfl,fun _=>rfl,fun e=>absurd e (by decide)⟩)
end
end ST
namespace ST
open PySem
section
variable {prog:Program} {w:World} {A:Around} {E:Value->Shared->Prop} {s:Shared} {a:Addr} {o:Obj} {es:Array (Int × Value)} {ep:Nat} {t:SetTable}
theorem Qo {order:List Value} {acc:Array Value} (h:ItemsOf (fun i v=>order[i]? = some v) acc order.length):acc.toList = order:=by
 refine List.ext_getElem? fun i=>?_
 rw [Array.getElem?_toList]
 by_cases hi:i < acc.size
 ·have e:acc[i]? = some acc[i]:=Array.getElem?_eq_some_iff.mpr ⟨hi,rfl⟩
  rw [e,h.2 i _ e]
 ·rw [Array.getElem?_eq_none (by omega),List.getElem?_eq_none (by have:=h.1; omega)]
theorem collect_set {Q:List Value->Shared->Prop} (hh:A.handled = none) (S:SAt w s.heap a o es ep t)
  (hQ:∀ s' acc,(∀ b ob,s.heap.get? b = some ob->s'.heap.get? b = some ob)->s'.gens = s.gens->s'.os = s.os->s.heap.objs.size < s'.heap.objs.size->acc.Perm (es.toList.map (·.2))->Q acc s'):wpAny (model prog w) A (collect (.ref a)) Q E s:=by
 have ha:=Heap.lt_size S.ho
 unfold collect
 refine wpAny_bind (wpAny_runValue (codeAny_builtin F.entry_proto_collect ?_))
 rw [Around.under_plainId F.plain_proto_collect _]
 show wpAny _ A.in1 (newList [] >>= fun l=>again (.builtin "list.__iadd__" ⟨[l,.ref a],[]⟩)) _ _ s
 refine wpAny_bind (wpAny_newObj_type ?_)
 refine wpAny_pure ⟨plainId_quiet F.plain_list_iadd _,codeAny_builtin F.entry_list_iadd ?_⟩
 rw [Around.under_plainId F.plain_list_iadd _]
 show wpAny _ A.in1 (Builtin.List.listExtendWith (.ref s.heap.objs.size) (.ref a) (.ref s.heap.objs.size)) _ _ _
 unfold Builtin.List.listExtendWith
 have hne:s.heap.objs.size ≠ a:=fun e=>absurd ha (by rw [<-e]; exact Nat.lt_irrefl _)
 generalize hH:s.heap.push { cls:=.type "list",data:=.seq ([]:List Value).toArray } = H
 have kH:∀ b ob,s.heap.get? b = some ob->H.get? b = some ob:=fun b ob e=>by rw [<-hH]; exact Heap.get?_push_of_some _ e
 have hHs:H.objs.size = s.heap.objs.size + 1:=by rw [<-hH,Heap.size_push]
 have hS:H.get? s.heap.objs.size = some { cls:=.type "list",data:=.seq ([]:List Value).toArray }:=by rw [<-hH]; exact Heap.get?_push_size _ rfl
 have hT:Shared.TypeIs { s with heap:=H } (.ref a) "set":=⟨o,kH a o S.ho,S.ex.1⟩
 refine wpAny_bind (wpAny_typeOf hT ?_)
 have h1:Builtin.List.listSameRef (.ref s.heap.objs.size) (.ref a) = false:=by simp [Builtin.List.listSameRef,hne]
 have h2:(Value.type "set" == Value.type "list") = false:=by decide
 have h3:(Value.type "set" == Value.type "tuple") = false:=by decide
 simp only [h1,h2,h3,Bool.or_false,Bool.false_eq_true,if_false]
 refine wpAny_bind (Ss (s:={ s with heap:=H }) (S.at (kH a o S.ho)) fun it T order h' d hia hiT hTa hsz k hp st hlt W=>?_)
 have hT':Shared.TypeIs { s with heap:=h',drawn:=d } (.ref a) "set":=⟨o,k a o (kH a o S.ho),S.ex.1⟩
 refine wpAny_bind (wpAny_holding ?_)
 unfold Builtin.List.listLengthHint
 refine wpAny_bind (wpAny_specialOf hT' zBd ?_)
 wp_delta
 refine wpAny_bind (wpAny_isInstance hT' (b:=true) (by rw [isSubtype_type]; kernel_rfl) ?_)
 show wpAny _ A.in1 (typeOf (Value.ref a) >>= _) _ _ _
 refine wpAny_bind (wpAny_typeOf hT' ?_)
 refine wpAny_pure ?_
 rw [if_pos (by decide)]
 refine wpAny_bind (wpAny_rule ?_)
 have hS1:h'.get? s.heap.objs.size = some { cls:=.type "list",data:=.seq ([]:List Value).toArray }:=k _ _ hS
 refine wpAny_bind ?_
 show wpAny _ A.in1 (updateSeq s.heap.objs.size (·.push .none) >>= fun _=>updateSeq s.heap.objs.size (·.pop)) _ _ _
 refine wpAny_bind (wpAny_updateSeq hS1 rfl ?_)
 have hS2:=Heap.get?_update_self (Obj.mapSeq (·.push Value.none)) hS1 rfl
 refine wpAny_updateSeq hS2 rfl ?_
 have hS3:=Heap.get?_update_self (Obj.mapSeq (·.pop)) hS2 rfl
 have oth:∀ b ob,b ≠ s.heap.objs.size->h'.get? b = some ob->((h'.update s.heap.objs.size (Obj.mapSeq (·.push Value.none))).update s.heap.objs.size (Obj.mapSeq (·.pop))).get? b = some ob :=
  fun b ob hb e=>(Heap.get?_update_other _ _ (Ne.symm hb)).trans ((Heap.get?_update_other _ _ (Ne.symm hb)).trans e)
 have hSf:s.heap.objs.size ∉ [it,a,T]:=by
  have e1:s.heap.objs.size ≠ it:=fun e=>absurd hsz (by
   show ¬ H.objs.size<=it
   rw [hHs,<-e]; exact Nat.not_succ_le_self _)
  have e2:s.heap.objs.size ≠ T:=fun e=>by
   rcases hTa with z | z
   ·exact hne (e.trans z)
   ·exact absurd z (by
     show ¬ H.objs.size<=T
     rw [hHs,<-e]; exact Nat.not_succ_le_self _)
  simp only [List.mem_cons,List.not_mem_nil,or_false,not_or]
  exact ⟨e1,hne,e2⟩
 have hle:es.size = order.length:=by
  have:=hp.length_eq
  rw [List.length_map,Array.length_toList] at this
  exact this.symm
 have hfew:=S.few
 refine wpAny_pure ⟨plainId_quiet F.plain_extend_loop _,codeAny_extend_loopS (W A.in1 hh).toS (by rw [sizeLine_eq]; omega) _ hSf _ es.size 0 _ _ _ rfl (Nat.zero_le _)
  ((W A.in1 hh).frame 0 h' _ st fun b hb ob e=>oth b ob (fun z=>hSf (z ▸ hb)) e) hS3 (ItemsOf.nil _) fun s' acc' c' hm hS' hacc=>?_⟩
 show wpAny _ A (load s.heap.objs.size >>= _) _ _ s'
 refine wpAny_bind (wpAny_load hS' ?_)
 rw [hle] at hacc
 refine wpAny_pure (hQ s' acc'.toList (fun b ob e=>hm.heap b ob (fun hb=>?_) (oth b ob (fun z=>?_) (k b ob (kH b ob e)))) hm.gens hm.os (Heap.lt_size hS') (by rw [Qo hacc]; exact hp))
 ·have hbl:=Heap.lt_size e
  rcases List.mem_cons.mp hb with z | z
  ·exact absurd hbl (by rw [z]; exact Nat.lt_irrefl _)
  ·rw [List.mem_singleton.mp z] at hbl
   have:H.objs.size<=it:=hsz
   rw [hHs] at this
   exact absurd (Nat.lt_of_lt_of_le hbl (Nat.le_of_succ_le this)) (Nat.lt_irrefl _)
 ·exact absurd (Heap.lt_size e) (by rw [z]; exact Nat.lt_irrefl _)
end
end ST
namespace ST
open PySem L2
theorem Xc (t:SetTable) (n:Nat):(t.orStandIn n).led = t.led:=by
 unfold SetTable.orStandIn
 split <;> rfl
theorem Uq (t:SetTable) (es:Array (Int × Value)) (h:Int) (x:Value):(layNew t es h x).2.1.led = t.led:=by
 unfold layNew
 split
 ·rename_i sl wd e
  show ((t.put sl).1.orStandIn _).led = _
  rw [Xc]
  rfl
 ·rfl
theorem Ll {t t':SetTable} {hs:Array Int} {n:Nat} {ord:Array Nat} (h:t.relaid hs n = some (t',ord)):t'.led = t.led/\t'.plain = t.plain:=by
 unfold SetTable.relaid SetTable.laid at h
 cases e:SetTable.layClean (SetTable.sizeAbove n - 1) hs with
 | none=>rw [e] at h; cases h
 | some ow =>
  rw [e] at h
  cases h
  exact ⟨rfl,rfl⟩
theorem Oa (t:SetTable) (es:Array (Int × Value)) (n:Nat) (hp:t.plain = false):(relayAll t es n).2.1.led = t.led/\(relayAll t es n).2.1.plain = false:=by
 unfold relayAll
 split
 ·rename_i t' ord e
  obtain ⟨e1,e2⟩:=Ll e
  dsimp only
  split
  ·exact ⟨e1,e2.trans hp⟩
  ·exact ⟨rfl,rfl⟩
 ·exact ⟨rfl,rfl⟩
noncomputable def zCt:Value->Str
 | .str x _=>x
 | _=>Str.empty
section
variable {prog:Program} {w:World} {A:Around} {E:Value->Shared->Prop} {s:Shared} {a:Addr}
structure TxtEs (w:World) (es:Array (Int × Value)) (ss:List Str):Prop where
 el:∀ e ∈ es.toList,∃ x tk,e = (hashStr w x,Value.str x tk)
 pm:(es.toList.map fun e=>zCt e.2).Perm ss
 nd:ss.Nodup
noncomputable def WS (w:World) (h:Heap) (a:Addr) (ss:List Str):Prop:=∃ o es ep t,SAt w h a o es ep t/\TxtEs w es ss
theorem TxtEs.elems {es:Array (Int × Value)} {ss:List Str} (h:TxtEs w es ss):ElemsOf (C2 prog w) es.toList:=fun e he=>by
 obtain ⟨x,tk,rfl⟩:=h.el e he
 exact ⟨⟨.inr x,X7 x tk,rfl⟩,rfl⟩
theorem TxtEs.mem {es:Array (Int × Value)} {ss:List Str} (h:TxtEs w es ss) (x:Str):x ∈ ss ↔ ∃ e ∈ es.toList,(C2 prog w).is (.inr x) e.2 = true:=by
 rw [<-h.pm.mem_iff]
 constructor
 ·intro hm
  obtain ⟨e,he,rfl⟩:=List.mem_map.mp hm
  obtain ⟨y,tk,rfl⟩:=h.el e he
  exact ⟨_,he,X7 y tk⟩
 ·rintro ⟨e,he,hk⟩
  obtain ⟨y,tk,rfl⟩:=h.el e he
  have:y = x:=by
   rcases E1 (show Gh (.inr x) (.str y tk) = true from hk) with ⟨i,t,e1,e2⟩ | ⟨z,t,e1,e2⟩
   ·cases e2
   ·cases e1; cases e2; rfl
  subst this
  exact List.mem_map.mpr ⟨_,he,rfl⟩
theorem TxtEs.len {es:Array (Int × Value)} {ss:List Str} (h:TxtEs w es ss):es.size = ss.length:=by
 have:=h.pm.length_eq
 rw [List.length_map,Array.length_toList] at this; exact this
theorem add_txt {ss:List Str} {x:Str} {tk:Tok} {Q:Bool->Shared->Prop} (S:WS w s.heap a ss) (hl:ss.length + 1 < 4096)
  (h:∀ h' b,Heap.SameBut a s.heap h'->WS w h' a (if x ∈ ss then ss else ss ++ [x])->Q b { s with heap:=h' }) :
  wpAny (model prog w) A (setAddHashed a (.str x tk) (hashStr w x)) Q E s:=by
 obtain ⟨o,es,ep,t,S,T⟩:=id S
 have hkey:(C2 prog w).is (.inr x) (.str x tk) = true:=X7 x tk
 have hsz:=T.len
 unfold setAddHashed setAddHashedIn
 refine wpAny_holding (wpAny_bind (wpAny_setState_of S.ho S.hd S.ft ?_))
 dsimp only
 rw [byScan_of (knd:=C2 prog w) rfl S.few T.elems,if_pos rfl]
 unfold setAddByScan
 refine wpAny_bind (wpAny_bind (wpAny_rule ?_))
 refine wpAny_bind (wpAny_setScan_of hkey S.ho S.hd S.ft T.elems ?_)
 cases hr:List.findIdx? (fun e=>(C2 prog w).is (.inr x) e.2) es.toList with
 | some j =>
  dsimp only
  obtain ⟨hj,hpj,_⟩:=List.findIdx?_eq_some_iff_getElem.mp hr
  have hx:x ∈ ss:=(T.mem (prog:=prog) x).mpr ⟨es.toList[j],List.getElem_mem hj,hpj⟩
  refine wpAny_pure (wpAny_pure ?_)
  have:=h s.heap false (Heap.SameBut.refl a s.heap) (by rw [if_pos hx]; exact ⟨o,es,ep,t,S,T⟩)
  exact this
 | none =>
  dsimp only
  have hx:¬ x ∈ ss:=fun hx=>by
   obtain ⟨e,he,hp⟩:=(T.mem (prog:=prog) x).mp hx
   have:=List.findIdx?_eq_none_iff.mp hr e he
   rw [hp] at this; exact Bool.noConfusion this
  have hgw:∀ (b:Bool) {s1:Shared} {Q':Unit->Shared->Prop},Q' () s1->wpAny (model prog w) A (match b with | true=>rule "set.scan.the-table-gave-way" | false=>pure ()) Q' E s1 :=
   fun b s1 Q' hq=>by cases b <;> first | exact wpAny_pure hq | exact wpAny_rule hq
  have hperm:=layNew_perm t es (hashStr w x) (.str x tk)
  have hfits:=layNew_fits t es (hashStr w x) (.str x tk)
  have hled:=Uq t es (hashStr w x) (.str x tk)
  show wpAny _ _ (match layNew t es (hashStr w x) (.str x tk) with | (es,t,wasDummy,gave)=>_) _ _ _
  generalize layNew t es (hashStr w x) (.str x tk) = L at hperm hfits hled ⊢
  obtain ⟨es1,t1,wasDummy,gave⟩:=L
  dsimp only at hperm hfits hled ⊢
  rw [Array.toList_push] at hperm
  have hT1:∀ es2:Array (Int × Value),es2.toList.Perm es1.toList->TxtEs w es2 (ss ++ [x]):=fun es2 hp2=>by
   refine ⟨fun e he=>?_,?_,?_⟩
   ·rcases List.mem_append.mp (hperm.mem_iff.mp (hp2.mem_iff.mp he)) with z | z
    ·exact T.el e z
    ·exact ⟨x,tk,List.mem_singleton.mp z⟩
   ·refine ((hp2.trans hperm).map _).trans ?_
    rw [List.map_append]
    exact T.pm.append (.refl _)
   ·rw [List.nodup_append]
    refine ⟨T.nd,by simp,fun y hy z hz=>?_⟩
    rw [List.mem_singleton.mp hz]
    rintro rfl
    exact hx hy
  have hsz1:es1.size = ss.length + 1:=by
   have:=(hT1 es1 (.refl _)).len
   rw [List.length_append] at this; exact this
  refine wpAny_bind (hgw _ ?_)
  have key:∀ t2:SetTable,t2.led = t.led->t2.plain = false->t2.fits es1.size = true->wpAny (model prog w) A (do
    storeSet a es1 t2
    if (!wasDummy && t2.tooFull) = true then do
      (match (relayAll t2 es1 (SetTable.grown es1.size)).2.2 with | true=>rule "set.scan.the-table-gave-way" | false=>pure ())
      storeSet a (relayAll t2 es1 (SetTable.grown es1.size)).1 (relayAll t2 es1 (SetTable.grown es1.size)).2.1
      pure (some true)
     else pure (some true)) (fun r s'=>wpAny (model prog w) A (match r with | some added=>pure added | none=>setAddHashedIn a (.str x tk) (hashStr w x) 99999) Q E s') E s:=by
   intro t2 l2 p2 f2
   refine wpAny_bind (wpAny_storeSet_of S.ho S.hd ?_ (by rw [hsz1,sizeLine_eq]; omega))
   have ho1:=Cl S.ho S.hd es1 t2
   have sb1:=Heap.SameBut.update s.heap a (Obj.putSet es1 t2)
   split
   ·have hp:=relayAll_perm t2 es1 (SetTable.grown es1.size)
    have hf:=relayAll_fits t2 es1 (SetTable.grown es1.size)
    obtain ⟨hl3,hp3⟩:=Oa t2 es1 (SetTable.grown es1.size) p2
    have hz2:(relayAll t2 es1 (SetTable.grown es1.size)).1.size = es1.size:=by rw [<-Array.length_toList,hp.length_eq,Array.length_toList]
    refine wpAny_bind (hgw _ ?_)
    refine wpAny_bind (wpAny_storeSet_of ho1 rfl ?_ (by rw [hz2,hsz1,sizeLine_eq]; omega))
    refine wpAny_pure (wpAny_pure (h _ true (sb1.trans (Heap.SameBut.update _ a _)) ?_))
    rw [if_neg hx]
    exact ⟨_,_,_,_,⟨Cl ho1 rfl _ _,S.ex,rfl,hf,hl3.trans (l2.trans S.led),(fun z=>by rw [hp3] at z; cases z),by rw [hz2,hsz1]; omega⟩,hT1 _ hp⟩
   ·refine wpAny_pure (wpAny_pure (h _ true sb1 ?_))
    rw [if_neg hx]
    exact ⟨_,es1,_,t2,⟨ho1,S.ex,rfl,f2,l2.trans S.led,(fun z=>by rw [p2] at z; cases z),by rw [hsz1]; omega⟩,hT1 _ (.refl _)⟩
  cases hpl:t1.plain with
  | true =>
   rw [if_pos rfl,hashByValue_scannable 8 (x:=Value.str x tk) rfl]
   refine wpAny_bind (wpAny_pure ?_)
   exact key { t1 with plain:=false } hled rfl (SetTable.fits_plain_off hfits)
  | false =>
   rw [if_neg (by decide)]
   refine wpAny_bind (wpAny_pure ?_)
   exact key t1 hled hpl hfits
end
end ST
namespace L2
open PySem PySem.Spec PyProof.Rows
noncomputable def Bn (w:World) (a:Addr) (ss:List Str):HO:=.ext fun h=>ST.WS w h a ss
section
variable {X:Cx} {pins:List (Addr × Obj)} {σ:St} {H:Hp} {s:Shared} {a:Addr} {ss:List Str}
theorem Nv {P:Program} {w:World} {H:Hp} {h:Heap} (z:ST.WS w h a ss):ObjOk P w H h a (Bn w a ss) :=
 ⟨z,let ⟨o,_,_,_,S,_⟩:=z; ⟨o,S.ho⟩,fun h1 h2 ⟨o,es,ep,t,S,r⟩ k=>⟨o,es,ep,t,S.at (k o S.ho),r⟩⟩
theorem Inv.setw (I:Inv X pins σ H s) (e:H a = some (Bn X.w a ss)):ST.WS X.w s.heap a ss:=by
 obtain ⟨z,_⟩:=(show ObjOk X.prog X.w H s.heap a (Bn X.w a ss) from I.hok a _ e)
 exact z
noncomputable def Ek (l:List Str) (x:Str):List Str:=if x ∈ l then l else l ++ [x]
noncomputable def zAi (w:World):V->List V->Hp->VK->Prop:=fun x vs H Q=>∃ a l k,x = .ref a/\vs = [.str k]/\H a = some (Bn w a l)/\l.length + 1 < 4096/\Q .non (upd H a (Bn w a (Ek l k)))
theorem WS.typeIs {ss:List Str} (z:ST.WS X.w s.heap a ss):s.TypeIs (.ref a) "set":=let ⟨o,_,_,_,S,_⟩:=z; ⟨o,S.ho,S.ex.1⟩
theorem Vl:MtM X "set.add" (zAi X.w):=by
 intro pins s σ H x vs v us Q I rx rv h
 obtain ⟨a,l,k,rfl,rfl,hH,hz,q⟩:=h
 cases rx
 obtain ⟨u,rfl,⟨tk,rfl⟩⟩:=rv.one
 have z:=I.setw hH
 refine wpAny_call_entry F.slot_set_add (WS.typeIs z) F.entry_set_add ?_ (F.args_set_add_2 _ _)
 unfold Builtin.«set.add» Builtin.Frozenset.oneOther
 simp only [List.isEmpty_nil,bind_assoc]
 unfold Builtin.Frozenset.addrOf setAdd
 refine wpAny_bind (wpAny_pure ?_)
 try dsimp only
 refine wpAny_bind (wpAny_pure ?_)
 try dsimp only
 refine wpAny_bind ?_
 refine wpAny_holding ?_
 refine wpAny_bind (wpAny_pyHash_str ?_)
 refine ST.add_txt (s:={ s with toks:=s.toks + 1 }) z hz fun h' b hsb z'=>?_
 show wpAny _ _ (ret Value.none) _ _ _
 refine wpAny_pure ⟨_,rfl,.non,_,I.write (x:=a) (e:=a) (t':=s.toks + 1) (by rw [hH]; exact True.intro) (.inl rfl) (fun b q hb e=>(hsb.2 b hb).trans e) (let ⟨o,_,_,_,S,_⟩:=z'; ⟨o,S.ho⟩) (Nv z'),rfl,q⟩
theorem Sn {Q:Value->Shared->Prop} {A:Around} {E:Value->Shared->Prop} {prog:Program} {w:World}
  (h:ST.WS w (s.heap.push { cls:=.type "set",dict:=none,data:=.set #[] 0 (.fresh 0 0 (!(w.params.followText "set-order"))) }) s.heap.objs.size [] ->
   Q (.ref s.heap.objs.size) { s with heap:=s.heap.push { cls:=.type "set",dict:=none,data:=.set #[] 0 (.fresh 0 0 (!(w.params.followText "set-order"))) } }):wpAny (model prog w) A (newSet (.type "set")) Q E s:=by
 unfold newSet setsByText
 refine wpAny_bind (wpAny_bind (wpAny_askSetting (wpAny_pure ?_)))
 dsimp only
 simp only [newObj]
 refine wpAny_bind (wpAny_alloc (wpAny_pure (h ⟨_,#[],0,_,⟨Heap.get?_push_size _ rfl,⟨rfl,rfl,rfl⟩,rfl,by rfl,rfl,fun _=>rfl,by decide⟩,⟨fun e he=>by simp at he,by simp,List.nodup_nil⟩⟩)))
end
section
variable {X:Cx} {tg iter elt tg2 iter2:Expr} {g g2:TG} {tc tc2:TT} {te:TE} {ifs ifs2:List Expr} {scope:Scope} {cl:List (Str × Addr)} {N':List Str} {cap:List (Option Nat)} {pos:Pos} {wi wi2:TI}
noncomputable def Fh (w:World) (D:Addr) (te:TE):TEm:=fun σ H Q=>te σ H fun y H1=>∃ l k,y = .str k/\H1 D = some (Bn w D l)/\l.length + 1 < 4096/\Q σ (upd H1 D (Bn w D (Ek l k)))
theorem Rs {D:Addr} (hxe:X.xe = fun _ _=>False) (he:PE X elt te):PEm X (emS elt (.ref D) X.env) (Fh X.w D te):=by
 intro pins s σ H Q k F E I h hk
 unfold emS
 refine wpAny_bind (wpAny_bind (wpAny_mono (Bk hxe (he pins s σ H _ I h)) (fun u s1 ⟨y,H1,I1,r1,l,kk,e1,e2,z1,q1⟩=>?_) fun _ _ z=>z))
 subst e1
 refine wpAny_bind (wpAny_standAt (wpAny_bind (wpAny_mono (Bk hxe (Vl pins s1 σ H1 (.ref D) [.str kk] (.ref D) [u] (fun v H2=>v = .non/\Q σ H2) I1 rfl (.cons r1 .nil) ⟨D,l,kk,rfl,rfl,e2,z1,rfl,q1⟩)) (fun v s2 ⟨y2,H2,I2,r2,_,q2⟩=>?_) fun _ _ z=>z)))
 exact wpAny_pure (hk s2 σ H2 I2 q2)
theorem Vu {D:Addr} (hc:X.calm = true) (hxe:X.xe = fun _ _=>False) (hi:PI X tg2 iter2 wi2) (hg:PG X tg2 g2) (ht:PTs X ifs2 tc2) (he:PE X elt te) (hs:∀ x,foldedSetIterable iter2 X.env x = pure x) :
  PEm X (emN (.SetComp elt [⟨tg,iter,ifs,0⟩,⟨tg2,iter2,ifs2,0⟩] scope pos) iter2 1 (.ref D) X.env) (zAk wi2 fun J σ H Q=>Ha g2 tc2 (Fh X.w D te) J σ H Q):=by
 intro pins s σ H Q k F E I h hk
 unfold emN
 have h0:=hi pins s σ H _ I h
 rw [hxe] at h0
 refine wpAny_bind (wpAny_mono h0 (fun v s1 h1=>?_) fun _ _ z=>z.elim)
 refine wpAny_bind (wpAny_standAt (wpAny_bind (wpAny_of_eq (hs v) (wpAny_bind (wpAny_holding (wpAny_mono h1 (fun itv s2 h2=>?_) fun _ _ z=>z.elim))))))
 obtain ⟨it,fp,tn,J,H2,eit,I2,T,st2,f2,R2⟩:=h2
 subst eit
 refine wpAny_bind (wpAny_runOwn ?_)
 refine Y6 (X:=X) (e:=.SetComp elt [⟨tg,iter,ifs,0⟩,⟨tg2,iter2,ifs2,0⟩] scope pos) (d:=1) (tg:=tg2) (iter:=iter2) (ifs:=ifs2) rfl rfl (gs:=[⟨tg,iter,ifs,0⟩,⟨tg2,iter2,ifs2,0⟩]) rfl rfl T st2 ?_
 exact S7 (X:=X) rfl rfl hc hxe (Lb elt tg iter tg2 iter2 ifs ifs2 scope pos _ _ _) hg ht (Rs hxe he) T I2 st2 f2 R2 fun s' σ' H' I' q'=>hk s' σ' H' I' q'
theorem Wd (S:CScope X scope cl N' cap) (hc:X.calm = true) (hi:PI X tg iter wi)
  (hb:∀ (pins:List (Addr × Obj)) (ex:List Addr) (s3:Shared) (H3:Hp),PG (cxC X scope cl N' pins ex s3 H3) tg g/\PTs (cxC X scope cl N' pins ex s3 H3) ifs tc/\PI (cxC X scope cl N' pins ex s3 H3) tg2 iter2 wi2 /\
   PG (cxC X scope cl N' pins ex s3 H3) tg2 g2/\PTs (cxC X scope cl N' pins ex s3 H3) ifs2 tc2/\PE (cxC X scope cl N' pins ex s3 H3) elt te)
  (hs:∀ x,foldedSetIterable iter X.env x = pure x:=by intro _; rfl) (hs2:∀ env x,foldedSetIterable iter2 env x = pure x:=by intro _ _; rfl) :
  PE X (.SetComp elt [⟨tg,iter,ifs,0⟩,⟨tg2,iter2,ifs2,0⟩] scope pos) (Fc wi (fun D=>Bn X.w D []) cap fun D J σ H Q=>Ha g tc (zAk wi2 fun J σ H Q=>Ha g2 tc2 (Fh X.w D te) J σ H Q) J σ H Q):=by
 refine Cq (newAcc:=newSet (.type "set")) (p2:=firstIterPos [⟨tg,iter,ifs,0⟩,⟨tg2,iter2,ifs2,0⟩] pos) rfl (fun D=>Bn X.w D []) hs S hc hi (fun pins s σ H Q E I h=>?_) (fun pins ex s3 H3 D it fp tn J σ s H Q R T I st hf h hR=>?_) (fun _ _ _=>rfl) (fun _ _ _=>rfl) (fun E Q s h=>h)
 ·refine Sn fun z=>h _ (I.laid (t':=s.toks) (fun b o e=>Heap.get?_push_of_some _ e) (Nat.le_refl _) (Nv z)) fun b ob e=>Heap.get?_push_of_some _ e
 ·obtain ⟨b1,b2,b3,b4,b5,b6⟩:=hb pins ex s3 H3
  exact S7 (X:=cxC X scope cl N' pins ex s3 H3) rfl rfl hc rfl (Kx elt tg iter tg2 iter2 ifs ifs2 scope pos _ _ _) b1 b2 (Vu (X:=cxC X scope cl N' pins ex s3 H3) hc rfl b3 b4 b5 b6 (hs2 _)) T I st hf h hR
end
theorem Inv.drawn {X:Cx} {pins:List (Addr × Obj)} {σ:St} {H:Hp} {s:Shared} (I:Inv X pins σ H s) (d:Drawn):Inv X pins σ H { s with drawn:=d } :=
 ⟨I.ok,I.os,I.bare,I.base,I.loc,I.cell,I.free,I.freeC,I.pin,I.hok,I.len⟩
section
variable {X:Cx}
theorem Fr (hc:X.calm = true):E9 X (.builtin "sorted") (fun xs H Q=>∃ (p:Addr) (ss:List Str),xs = [.ref p]/\H p = some (Bn X.w p ss)/\∀ (l:Addr) (ss':List Str),H l = none->ss'.Perm ss->ss'.Pairwise leS->Q (.ref l) (upd H l (.lst (ss'.map V.str)))):=by
 intro pins s σ H xs us Q I r h
 obtain ⟨p,ss,rfl,hq,q⟩:=h
 obtain ⟨u,rfl,ru⟩:=X1 r
 cases ru
 obtain ⟨o,es,ep,t,S,T⟩:=I.setw hq
 refine TS.sorted_gen (ST.collect_set (show X.A.in1.handled = none from I.ok.hd hc) S fun s1 its k1 g1 o1 tk1 hpi=>?_)
 have hS:∀ v ∈ its,∃ x tk,v = Value.str x tk:=fun v hv=>by
  obtain ⟨e,he,rfl⟩:=List.mem_map.mp (hpi.mem_iff.mp hv)
  obtain ⟨x,tk,rfl⟩:=T.el e he
  exact ⟨x,tk,rfl⟩
 have hstr:StrsAre its (its.map strOf):=by
  have:∀ l:List Value,(∀ v ∈ l,∃ x tk,v = Value.str x tk)->StrsAre l (l.map strOf):=by
   intro l
   induction l with
   | nil=>exact fun _=>.nil
   | cons v r ih =>
    intro h
    obtain ⟨x,tk,rfl⟩:=h v (List.mem_cons_self ..)
    exact .cons _ _ (ih fun u hu=>h u (List.mem_cons_of_mem _ hu))
  exact this its hS
 have hlen:its.length = es.size:=by rw [hpi.length_eq,List.length_map,Array.length_toList]
 have hfew:=S.few
 have hss:(its.map strOf).Perm ss:=by
  refine (hpi.map strOf).trans ?_
  rw [List.map_map]
  refine List.Perm.trans (List.Perm.of_eq ?_) T.pm
  refine List.map_congr_left fun e he=>?_
  obtain ⟨x,tk,rfl⟩:=T.el e he
  rfl
 refine ⟨o1,by rw [sizeLine_eq]; omega,strKind,oneType',fun s2 _=>TS.keys_strs hstr,fun out h' e ho k hg=>?_⟩
 obtain ⟨hp,hs⟩:=ho
 have hm:∀ v ∈ out.toList,∃ x t,v = .str x t:=fun v hv=>hS v (hp.mem_iff.mp hv)
 have hv:Vals ((out.toList.map strOf).map V.str) out.toList:=by
  have:∀ us:List Value,(∀ v ∈ us,∃ x t,v = .str x t)->Vals ((us.map strOf).map V.str) us:=by
   intro us
   induction us with
   | nil=>exact fun _=>.nil
   | cons v r ih =>
    intro h
    obtain ⟨x,t,rfl⟩:=h v (List.mem_cons_self ..)
    exact .cons ⟨t,rfl⟩ (ih fun u hu=>h u (List.mem_cons_of_mem _ hu))
  exact this _ hm
 have hperm:(out.toList.map strOf).Perm ss:=(hp.map strOf).trans hss
 have hpw:(out.toList.map strOf).Pairwise leS:=by
  rw [List.pairwise_map]
  refine (List.Pairwise.and_mem.mp hs).imp fun {u v} ⟨hu,hv',q⟩=>?_
  obtain ⟨x,t,rfl⟩:=hm u hu
  obtain ⟨y,t',rfl⟩:=hm v hv'
  have q':decide (y.cps.toList < x.cps.toList) = false:=q
  exact of_decide_eq_false q'
 have k0:∀ b o,s.heap.get? b = some o->h'.get? b = some o:=fun b o eb=>k b o (k1 b o eb)
 have hge:s.heap.objs.size<=s1.heap.objs.size:=Nat.le_of_lt tk1
 have hn:H s1.heap.objs.size = none:=I.hok.fresh hge
 obtain ⟨h1,g',d',t',o'⟩:=s1
 have eo:o' = s.os:=o1
 have eg:g' = s.gens:=g1
 subst eo; subst eg
 refine ⟨.ref h1.objs.size,upd H h1.objs.size (.lst ((out.toList.map strOf).map V.str)),?_,rfl,q _ _ hn hperm hpw⟩
 exact (I.laid (a:=h1.objs.size) (o:=.lst ((out.toList.map strOf).map V.str)) (t':=t') k0 hge ⟨by rw [List.length_map,List.length_map,hp.length_eq,sizeLine_eq]; omega,out.toList,e,hv,by simpa using hg⟩).drawn d'
end
end L2
namespace L2
open PySem PySem.Spec PyProof.Rows
noncomputable def Ly (P:Program) (w:World) (a:Addr) (ks:List (List Key × Addr)):HO:=.ext fun h=>ST.TSet (C2 P w) h a ks
noncomputable def Ja (H:Hp) (ks:List (List Key × Addr)):Prop:=∀ q ∈ ks,H q.2 = some (.tup (q.1.map kV))
section
variable {X:Cx} {pins:List (Addr × Obj)} {σ:St} {H:Hp} {s:Shared} {a:Addr} {ks:List (List Key × Addr)}
theorem Iq (P:Program) (w:World):ST.Flat (C2 P w):=fun v ⟨x,h⟩=>(C2 P w).byValue x v h
theorem Ta (P:Program) (w:World):ST.Scan (C2 P w):=fun v ⟨x,h⟩=>by
 rcases E1 (show Gh x v = true from h) with ⟨i,t,_,rfl⟩ | ⟨y,t,_,rfl⟩ <;> rfl
theorem Tp {P:Program} {w:World} {H:Hp} {h:Heap} (z:ST.TSet (C2 P w) h a ks):ObjOk P w H h a (Ly P w a ks) :=
 ⟨z,let ⟨o,_,_,_,e,_⟩:=z; ⟨o,e⟩,fun h1 h2 ⟨o,es,ep,t,e,r⟩ k=>⟨o,es,ep,t,k o e,r⟩⟩
theorem Inv.sett (I:Inv X pins σ H s) (e:H a = some (Ly X.prog X.w a ks)):ST.TSet (C2 X.prog X.w) s.heap a ks:=by
 obtain ⟨z,_⟩:=(show ObjOk X.prog X.w H s.heap a (Ly X.prog X.w a ks) from I.hok a _ e)
 exact z
theorem Li:E9 X (.type "set") (fun xs H Q=>xs = []/\∀ p,H p = none->Q (.ref p) (upd H p (Ly X.prog X.w p []))):=by
 intro pins s σ H xs us Q I r h
 obtain ⟨rfl,q⟩:=h
 cases r
 refine call_set_0 fun led=>⟨.ref s.heap.objs.size,_,I.laid (t':=s.toks) (fun b o e=>Heap.get?_push_of_some _ e) (Nat.le_refl _) (Tp ?_),rfl,q _ (I.hok.fresh (Nat.le_refl _))⟩
 exact ⟨_,#[],0,_,Heap.get?_push_size _ rfl,⟨rfl,rfl,rfl⟩,rfl,.refl _,⟨rfl,rfl,.inl rfl,by show 0 * 5 < 7 * 3; decide⟩⟩
noncomputable def zBw (P:Program) (w:World):R2:=fun x y H Q=>∃ a p ks k,y = .ref a/\x = .ref p/\H a = some (Ly P w a ks)/\H p = some (.tup (k.map kV))/\Ja H ks/\(∀ q ∈ ks,q.1 ≠ k)/\Q (.bl false) H
theorem Lm (hu:X.A.units + 1 < cLine):OpR X (compareOp .In) (zBw X.prog X.w):=by
 intro pins s σ H x y v u Q I rx ry h
 obtain ⟨a,p,ks,k,rfl,rfl,hH,hp,ht,hn,q⟩:=h
 cases ry
 cases rx
 exact ST.in_free (neg:=false) hu (Iq _ _) (I.sett hH) (fun z hz=>Bp I.hok (ht z hz)) (Bp I.hok hp) hn ⟨.bl false,H,I.tok _,rfl,q⟩
noncomputable def Yb (P:Program) (w:World):V->List V->Hp->VK->Prop:=fun x vs H Q=>∃ a p ks k,x = .ref a/\vs = [.ref p]/\H a = some (Ly P w a ks)/\H p = some (.tup (k.map kV))/\Ja H ks/\(∀ q ∈ ks,q.1 ≠ k)/\ks.length + 1<=300/\Q .non (upd H a (Ly P w a (ks ++ [(k,p)])))
theorem Vn (hu:X.A.units + 1 < cLine):MtM X "set.add" (Yb X.prog X.w):=by
 intro pins s σ H x vs v us Q I rx rv h
 obtain ⟨a,p,ks,k,rfl,rfl,hH,hp,ht,hn,hl,q⟩:=h
 cases rx
 obtain ⟨u,rfl,ru⟩:=rv.one
 cases ru
 refine ST.call_add hu (Iq _ _) (Ta _ _) (I.sett hH) (fun z hz=>Bp I.hok (ht z hz)) (Bp I.hok hp) hn hl fun h' hs z=>?_
 exact ⟨.non,_,I.write (x:=a) (e:=a) (by rw [hH]; exact True.intro) (.inl rfl) (fun b q hb e=>(hs.2 b hb).trans e) (let ⟨o,_,_,_,e,_⟩:=z; ⟨o,e⟩) (Tp z),rfl,q⟩
end
section
variable {X:Cx} {tg:Expr}
noncomputable def zAc (K:PySem.W.Frag) (tl:TE):TI:=fun σ H R=>tl σ H fun x H1=>∃ a,x = .ref a/\(((∃ xs,SqL K H1 a xs)/\R (Itl K a) H1)\/((∃ xs,SqT K H1 a xs)/\R (Itt K a) H1))
theorem Xh {l:Expr} {tl:TE} (hl:PE X l tl):PI X tg l (zAc X.K tl):=by
 intro pins s σ H R I h
 refine thn (hl pins s σ H _ I h) fun v s1 ⟨x,H1,I1,r1,q1⟩=>?_
 obtain ⟨a,e,q1⟩:=q1
 subst e
 cases r1
 have fin:∀ b,b ∈ [s1.heap.objs.size]->Bh X pins H1 b:=fun b hb=>by
  have e:b = s1.heap.objs.size:=by simpa using hb
  subst e
  exact I1.fpOk (Nat.le_refl _) (I1.hok.fresh (Nat.le_refl _))
 rcases q1 with ⟨⟨xs,hq⟩,q⟩ | ⟨⟨xs,hq⟩,q⟩
 ·obtain ⟨its,rv,p,hz⟩:=I1.list hq
  refine wpAny_pyIter_list p.isList ?_
  exact ⟨s1.heap.objs.size,[s1.heap.objs.size],_,_,H1,rfl,I1.kept (t':=s1.toks) fun b o e=>Heap.get?_push_of_some _ e,Eo a _,⟨_,Heap.get?_push_size _ rfl,rfl,rfl⟩,fin,q⟩
 ·obtain ⟨its,rv,p,hz⟩:=I1.tuple hq
  refine wpAny_pyIter_tuple (show s1.heap.IsTuple a its.toArray from p) ?_
  exact ⟨s1.heap.objs.size,[s1.heap.objs.size],_,_,H1,rfl,I1.kept (t':=s1.toks) fun b o e=>Heap.get?_push_of_some _ e,Lf a _,⟨_,Heap.get?_push_size _ rfl,rfl,rfl⟩,fin,q⟩
end
section
variable {X:Cx}
theorem Mf:E9 X (.builtin "isinstance") (fun xs H Q=>∃ x n t b,xs = [x,.ty n]/\TyOf X.K H x t/\PySem.W.kitOne X.K t (.type n) = some b/\Q (.bl b) H):=by
 intro pins s σ H xs us Q I r h
 obtain ⟨x,n,t,b,rfl,ht,he,q⟩:=h
 obtain ⟨u,v,rfl,ru,rv⟩:=r.two
 cases rv
 exact Oh I ru ht he fun tk=>⟨.bl b,H,I.tok _,rfl,q⟩
end
end L2
namespace L2
open PySem PySem.Spec PyProof.Rows
mutual
noncomputable def Rp (K:PySem.W.Frag) (H:Hp):PyData->V->Prop
 | .none,v=>v = .non
 | .bool b,v=>v = .bl b
 | .int i,v=>v = .int i
 | .str x,v=>v = .str x
 | .list ds,v=>∃ a xs,v = .ref a/\SqL K H a xs/\Rps K H ds xs
 | .tuple ds,v=>∃ a xs,v = .ref a/\SqT K H a xs/\Rps K H ds xs
 | .dict _,_=>False
noncomputable def Rps (K:PySem.W.Frag) (H:Hp):List PyData->List V->Prop
 | [],vs=>vs = []
 | d :: ds,vs=>∃ v r,vs = v :: r/\Rp K H d v/\Rps K H ds r
end
section
variable {X:Cx} {pins:List (Addr × Obj)} {σ:St} {H:Hp} {s:Shared}
mutual
theorem Inv.reads (I:Inv X pins σ H s):∀ (d:PyData) (v:V) (u:Value),Rp X.K H d v->RelV v u->∃ as,Reads s.heap u d as
 | .none,v,u,h,r=>by
  cases (show v = .non by simpa [Rp] using h)
  cases r
  exact ⟨_,.none⟩
 | .bool b,v,u,h,r=>by
  cases (show v = .bl b by simpa [Rp] using h)
  cases r
  exact ⟨_,.bool b⟩
 | .int i,v,u,h,r=>by
  cases (show v = .int i by simpa [Rp] using h)
  obtain ⟨t,rfl⟩:=r
  exact ⟨_,.int i t⟩
 | .str x,v,u,h,r=>by
  cases (show v = .str x by simpa [Rp] using h)
  obtain ⟨t,rfl⟩:=r
  exact ⟨_,.str x t⟩
 | .list ds,v,u,h,r=>by
  obtain ⟨a,xs,e,hq,hs⟩:=(show ∃ a xs,v = V.ref a/\SqL X.K H a xs/\Rps X.K H ds xs by simpa [Rp] using h)
  subst e
  cases r
  obtain ⟨its,rv,⟨o,n,e,hc,hd,hda⟩,_⟩:=I.list hq
  obtain ⟨as,z⟩:=I.readsAll ds xs its hs rv
  exact ⟨_,.list e hc hda (by simpa using z)⟩
 | .tuple ds,v,u,h,r=>by
  obtain ⟨a,xs,e,hq,hs⟩:=(show ∃ a xs,v = V.ref a/\SqT X.K H a xs/\Rps X.K H ds xs by simpa [Rp] using h)
  subst e
  cases r
  obtain ⟨its,rv,⟨o,e,hc,n,hda⟩,_⟩:=I.tuple hq
  obtain ⟨as,z⟩:=I.readsAll ds xs its hs rv
  exact ⟨_,.tuple e hc hda (by simpa using z)⟩
 | .dict _,v,u,h,r=>by simp [Rp] at h
theorem Inv.readsAll (I:Inv X pins σ H s):∀ (ds:List PyData) (vs:List V) (us:List Value),Rps X.K H ds vs->Vals vs us->∃ as,ReadsAll s.heap us ds as
 | [],vs,us,h,r=>by
  cases (show vs = [] by simpa [Rps] using h)
  cases r
  exact ⟨_,.nil⟩
 | d :: ds,vs,us,h,r=>by
  obtain ⟨v,vr,e,h1,h2⟩:=(show ∃ v r,vs = v :: r/\Rp X.K H d v/\Rps X.K H ds r by simpa [Rps] using h)
  subst e
  cases r with
  | cons r1 r2 =>
   obtain ⟨as,z⟩:=I.reads d v _ h1 r1
   obtain ⟨bs,z'⟩:=I.readsAll ds vr _ h2 r2
   exact ⟨_,.cons z z'⟩
end
noncomputable def Pl (d:PyData):Prop:=d.canLay0 = true/\d.depth<=50
noncomputable def zAa (K:PySem.W.Frag):R2:=fun x y H Q=>∃ d e,Rp K H d x/\Rp K H e y/\Pl d/\Pl e/\Q (.bl (PyData.eqv d e)) H
noncomputable def zAt (K:PySem.W.Frag):R2:=fun x y H Q=>∃ d e,Rp K H d x/\Rp K H e y/\Pl d/\Pl e/\Q (.bl (!PyData.eqv d e)) H
theorem Xd (hu:X.A.units + 64 < cLine):OpR X (compareOp .Eq) (zAa X.K):=by
 intro pins s σ H x y v u Q I rx ry h
 obtain ⟨d,e,h1,h2,p1,p2,q⟩:=h
 obtain ⟨as,z1⟩:=I.reads d x v h1 rx
 obtain ⟨bs,z2⟩:=I.reads e y u h2 ry
 exact PySem.SeqAt.compareEq_reads z1 z2 p1.1 p2.1 (by have:=p1.2; have:=p2.2; omega) ⟨.bl (PyData.eqv d e),H,I,rfl,q⟩
theorem Ws (hu:X.A.units + 64 < cLine):OpR X (compareOp .NotEq) (zAt X.K):=by
 intro pins s σ H x y v u Q I rx ry h
 obtain ⟨d,e,h1,h2,p1,p2,q⟩:=h
 obtain ⟨as,z1⟩:=I.reads d x v h1 rx
 obtain ⟨bs,z2⟩:=I.reads e y u h2 ry
 exact PySem.SeqAt.compareNe_reads z1 z2 p1.1 p2.1 (by have:=p1.2; have:=p2.2; omega) ⟨.bl (!PyData.eqv d e),H,I,rfl,q⟩
noncomputable def Wm (K:PySem.W.Frag) (neg:Bool):R2:=fun x y H Q=>∃ d ds,Rp K H d x/\(Rp K H (.list ds) y\/Rp K H (.tuple ds) y)/\Pl d/\PyData.canLayAll0 ds = true/\Q (.bl (if neg then !(ds.any fun z=>PyData.eqv z d) else ds.any fun z=>PyData.eqv z d)) H
theorem Zj (hu:X.A.units + 64 < cLine):OpR X (compareOp .In) (Wm X.K false):=by
 intro pins s σ H x y v u Q I rx ry h
 obtain ⟨d,ds,h1,h2,p1,p2,q⟩:=h
 obtain ⟨as,z1⟩:=I.reads d x v h1 rx
 have hu':X.A.units + 1 + min (PyData.depthAll ds) d.depth < cLine:=by have:=p1.2; omega
 rcases h2 with h2 | h2
 ·obtain ⟨bs,z2⟩:=I.reads (.list ds) y u h2 ry
  exact PySem.SeqAt.in_list_reads z2 z1 p2 p1.1 hu' ⟨.bl _,H,I,rfl,q⟩
 ·obtain ⟨bs,z2⟩:=I.reads (.tuple ds) y u h2 ry
  exact PySem.SeqAt.in_tuple_reads z2 z1 p2 p1.1 hu' ⟨.bl _,H,I,rfl,q⟩
theorem Pk (hu:X.A.units + 64 < cLine):OpR X (compareOp .NotIn) (Wm X.K true):=by
 intro pins s σ H x y v u Q I rx ry h
 obtain ⟨d,ds,h1,h2,p1,p2,q⟩:=h
 obtain ⟨as,z1⟩:=I.reads d x v h1 rx
 have hu':X.A.units + 1 + min (PyData.depthAll ds) d.depth < cLine:=by have:=p1.2; omega
 rcases h2 with h2 | h2
 ·obtain ⟨bs,z2⟩:=I.reads (.list ds) y u h2 ry
  exact PySem.SeqAt.notIn_list_reads z2 z1 p2 p1.1 hu' ⟨.bl _,H,I,rfl,q⟩
 ·obtain ⟨bs,z2⟩:=I.reads (.tuple ds) y u h2 ry
  exact PySem.SeqAt.notIn_tuple_reads z2 z1 p2 p1.1 hu' ⟨.bl _,H,I,rfl,q⟩
end
section
variable {X:Cx}
theorem Vals.insert {xs:List V} {us:List Value} {x:V} {u:Value} (h:Vals xs us) (r:RelV x u) (k:Nat):Vals (xs.take k ++ x :: xs.drop k) (us.take k ++ u :: us.drop k):=(h.take k).append (.cons r (h.drop k))
noncomputable def Ut:V->List V->Hp->VK->Prop:=fun x vs H Q=>∃ l xs i k y,x = .ref l/\vs = [.int i,y]/\i = ((k:Nat):Int)/\H l = some (.lst xs)/\k<=xs.length/\xs.length < sizeLine/\Q .non (upd H l (.lst (xs.take k ++ y :: xs.drop k)))
theorem zAr {k:Nat} {i:Int} (e:i = (k:Int)) (h:k<=sizeLine):¬ (!Builtin.List.listFitsIndex i) = true:=by
 rw [sizeLine_eq] at h
 have h1:-(2 ^ 63:Int)<=i:=by omega
 have h2:i < 2 ^ 63:=by omega
 have:=fitsIndex_both h1 h2
 simpa using this
theorem Mx:MtM X "list.insert" Ut:=by
 intro pins s σ H x vs v us Q I rx rv h
 obtain ⟨l,xs,i,k,y,rfl,rfl,hi,hH,hk,hz,q⟩:=h
 cases rx
 obtain ⟨u1,u2,rfl,⟨t,rfl⟩,ru⟩:=rv.two
 obtain ⟨z,its,n,r,hl,e⟩:=I.lstM hH
 have h0:k<=sizeLine:=by omega
 have h1:=zAr hi h0
 have h2:its.toArray.size<=sizeLine:=by rw [List.size_toArray]; omega
 have hM:=@PySem.AutoListH.list_insert_list_int_val_1 l its.toArray n i t u2 h1 h2
 refine call_meets F.slot_list_insert ⟨_,e,rfl⟩ F.entry_list_insert (F.args_list_insert_3 _ _ _) hM ⟨e,?_⟩
 refine ⟨.non,_,I.lset (its':=its.take k ++ u2 :: its.drop k) hH e ?_ (r.insert ru k) ?_,rfl,q⟩
 ·have hmin:min k its.length = k:=by omega
  have hn:¬ ((k:Int) < 0):=by omega
  subst hi
  have hneg:¬ ((k:Int) + 0 < 0):=by omega
  have e3:List.take (its.length - k) (List.drop k its) = List.drop k its:=List.take_of_length_le (by simp)
  simp [hmin,hn,e3]
 ·rw [List.length_append,List.length_cons,List.length_take,List.length_drop]
  omega
noncomputable def Uf:V->List V->Hp->VK->Prop:=fun x vs H Q=>∃ z y ps,x = .str z/\vs = [.str y]/\(decide (z.length < y.length) || decide (Builtin.Str.strKind z < Builtin.Str.strKind y)) = false/\(y.length == 0) = false /\
 (Builtin.Str.occurrences z y 0 z.length (z.length + 1)).isEmpty = false/\z.length<=4000/\Builtin.Str.partsBetween z (Builtin.Str.occurrences z y 0 z.length (z.length + 1)) y.length = ps/\ps.length<=4000/\∀ l,H l = none->Q (.ref l) (upd H l (.lst (ps.map V.str)))
theorem Eu:∀ (ps:List Str) (tk:Nat),Vals (ps.map V.str) (strsFrom tk ps)
 | [],_=>.nil
 | _ :: r,tk=>.cons ⟨tk,rfl⟩ (Eu r (tk + 1))
theorem Rl:MtM X "str.split" Uf:=by
 intro pins s σ H x vs v us Q I rx rv h
 obtain ⟨z,y,ps,rfl,rfl,h1,h2,h3,h4,rfl,h6,q⟩:=h
 obtain ⟨t,rfl⟩:=rx
 obtain ⟨u,rfl,⟨tk,rfl⟩⟩:=rv.one
 have hz:z.length<=sizeLine:=by rw [sizeLine_eq]; omega
 have hp:(Builtin.Str.partsBetween z (Builtin.Str.occurrences z y 0 z.length (z.length + 1)) y.length).length<=sizeLine:=by rw [sizeLine_eq]; omega
 refine call_meets F.slot_str_split (typeIs_str _ _ _) F.entry_str_split (F.args_str_split_2 _ _) (PySem.meets_str_split_sep z y t tk h1 h2 h3 hz hp) ?_
 exact ⟨.ref s.heap.objs.size,_,I.lnew (Eu _ _) (by rw [List.length_map]; exact hp),rfl,q _ I.fresh⟩
end
end L2
namespace L2
open PySem PySem.Spec PyProof.Rows
structure Fn (K:PySem.W.Frag) (mg:Str->Option Value) (x:Str) (st:Stmt) (ps:List Str) where
 f:Addr
 fd:FuncData
 F:Fun K x x st f fd
 b:Binds K fd ps []
 m:mg x = some (.ref f)
structure Mt (K:PySem.W.Frag) (C:Addr) (m qual:Str) (st:Stmt) (ps:List Str) where
 f:Addr
 fd:FuncData
 F:Fun K m qual st f fd
 b:Binds K fd ps []
 m:Meth K C m f
section
variable {X:Cx}
theorem E4 {x:Str} {st:Stmt} {ps:List Str} {k:Nat} {sp:Sp} {e:Expr} {es:List Expr} {t:TA} {p pos:Pos} (D:Fn X.K X.mg x st ps) (G:FnOk X.prog X.w X.K X.mg X.base CX0 k D.f D.fd ps sp) (hr:Room k X.A) (ha:PA X (e :: es) t)
  (hg:Gl X x:=by rfl) (hdb:(x == ("__debug__":Str)) = false:=by decide) (hs:starEach (e :: es) X.env = (false,eval e X.env) :: starEach es X.env:=by rfl) (hpl:(backTo pos (starEach es X.env)).any (·.1) = false:=by rfl) :
  PE X (.Call (.Name x p) (e :: es) [] pos) (Xg sp [] E0 t):=Vs G hr hg D.m D.F.kp D.b .nil F0 ha hdb hs hpl
noncomputable def Ph (P:Program) (w:World) (x:V) (H:Hp):Prop:=∃ p,x = .ref p/\((∃ l,H p = some (Lz P w p l))\/(∃ l,H p = some (Bn w p l))\/∃ ks,H p = some (Ly P w p ks))
theorem Zb {pins:List (Addr × Obj)} {σ:St} {H:Hp} {s:Shared} {x:V} {v:Value} (I:Inv X pins σ H s) (r:RelV x v) (ty:Ph X.prog X.w x H):s.TypeIs v "set"/\∀ a,v = .ref a->∃ ob,s.heap.get? a = some ob/\ob.dict = none:=by
 obtain ⟨p,rfl,h⟩:=ty
 cases r
 have z:∃ o,s.heap.get? p = some o/\o.ExactSet:=by
  rcases h with ⟨l,h⟩ | ⟨l,h⟩ | ⟨l,h⟩
  ·obtain ⟨o,_,_,_,e,ex,_⟩:=I.set h
   exact ⟨o,e,ex⟩
  ·obtain ⟨o,_,_,_,S,_⟩:=I.setw h
   exact ⟨o,S.ho,S.ex⟩
  ·obtain ⟨o,_,_,_,e,ex,_⟩:=I.sett h
   exact ⟨o,e,ex⟩
 obtain ⟨o,e,ex⟩:=z
 refine ⟨⟨o,e,ex.1⟩,fun a e2=>?_⟩
 cases e2
 exact ⟨o,e,ex.2.1⟩
noncomputable def zBq (P:Program) (w:World) (r:V->List V->Hp->VK->Prop) (to:TE) (t:TA):TE:=fun σ H Q=>to σ H fun x H1=>Ph P w x H1/\t σ H1 fun xs H2=>r x xs H2 Q
theorem Vt {o e:Expr} {to:TE} {t:TA} {apos cpos:Pos} {r:V->List V->Hp->VK->Prop} (hm:MtM X "set.add" r) (ho:PE X o to) (ha:PA X [e] t)
  (hbase:attributeBase o "add" X.env (eval o X.env) = eval o X.env:=by rfl)
  (hfew:((backTo cpos (starEach [e] X.env)).all (fun x=>!x.1) && (backToKw cpos (keywordEach [] X.env)).all (fun x=>x.1.isSome)
   && decide ([e].length + ([]:List Keyword).length + (if ([]:List Keyword).isEmpty then 0 else 1) < 30)) = true:=by rfl)
  (hline:(apos.endLine == cpos.line) = true:=by rfl) (hs:starEach [e] X.env = [(false,eval e X.env)]:=by rfl) :
  PE X (.Call (.Attribute o "add" apos) [e] [] cpos) (zBq X.prog X.w r to t):=by
 intro pins s σ H Q I h
 refine wpAny_Call_method_late hbase hfew hline rfl (thn (ho pins s σ H _ I h) fun v s1 ⟨x,H1,I1,r1,ty,q1⟩=>?_)
 obtain ⟨h1,h2⟩:=Zb I1 r1 ty
 refine ⟨"set", "set.add",F.plainAttrs_set,F.slot_set_add,F.type_set_add,h1,h2,?_⟩
 have hA:=ha cpos pins s1 σ H1 _ I1 q1
 rw [hs] at hA ⊢
 refine Calls.callWith_builtin rfl (Calls.evalArgs_plain ?_)
 exact thn hA fun us s2 ⟨vs,H2,I2,r2,q2⟩=>hm pins s2 σ H2 x vs v us Q I2 r1 r2 q2
theorem zAy {x:Str} {i:Int} {pos:Pos} (h:∃ t,X.mg x = some (.int i t)) (hg:Gl X x:=by rfl) (hd:(x == ("__debug__":Str)) = false:=by decide):PE X (.Name x pos) (tC (.int i)):=by
 obtain ⟨t,e⟩:=h
 exact Ip hg e ⟨t,rfl⟩ hd
theorem zBc {x y:Str} {pos:Pos} (h:∃ t,X.mg x = some (.str y t)) (hg:Gl X x:=by rfl) (hd:(x == ("__debug__":Str)) = false:=by decide):PE X (.Name x pos) (tC (.str y)):=by
 obtain ⟨t,e⟩:=h
 exact Ip hg e ⟨t,rfl⟩ hd
theorem T7 {x:Str} {n:String} {pos:Pos} (hm:X.mg x = none) (hv:bootBuiltins x = some (.type n)) (hg:Gl X x:=by rfl) (hn:x ≠ "__name__":=by decide) (hd:(x == ("__debug__":Str)) = false:=by decide):PE X (.Name x pos) (tC (.ty n)) :=
 Vv hg hm hv rfl hn hd
theorem D0 {x:Str} {id:String} {r:List V->Hp->VK->Prop} {e:Expr} {es:List Expr} {t:TA} {p pos:Pos} (hc:E9 X (.builtin id) r) (hm:X.mg x = none) (hv:bootBuiltins x = some (.builtin id)) (ha:PA X (e :: es) t) (hg:Gl X x:=by rfl) (hn:x ≠ "__name__":=by decide) (hdb:(x == ("__debug__":Str)) = false:=by decide)
  (hs:starEach (e :: es) X.env = (false,eval e X.env) :: starEach es X.env:=by rfl) (hpl:(backTo pos (starEach es X.env)).any (·.1) = false:=by rfl):PE X (.Call (.Name x p) (e :: es) [] pos) (tCB r t):=Rq hc hg hm hv ha hn hdb hs hpl
theorem Dw {x:Str} {T:String} {r:List V->Hp->VK->Prop} {e:Expr} {es:List Expr} {t:TA} {p pos:Pos} (hc:E9 X (.type T) r) (hm:X.mg x = none) (hv:bootBuiltins x = some (.type T)) (ha:PA X (e :: es) t) (hg:Gl X x:=by rfl) (hn:x ≠ "__name__":=by decide) (hdb:(x == ("__debug__":Str)) = false:=by decide)
  (hs:starEach (e :: es) X.env = (false,eval e X.env) :: starEach es X.env:=by rfl) (hpl:(backTo pos (starEach es X.env)).any (·.1) = false:=by rfl):PE X (.Call (.Name x p) (e :: es) [] pos) (tCB r t):=Mc hc hg hm hv ha hn hdb hs hpl
theorem V2 {scope:Scope} {cl:List (Str × Addr)} {N':List Str} {cap:List (Option Nat)} (caps:Caps X scope cl N' cap) (cin:ClIn X cl) (clos:closureFor scope X.env = pure cl:=by rfl) (kind:scope.kind = .function:=by rfl) (nocell:∀ y ∈ scope.names,y.2 ≠ .cell:=by decide +kernel)
  (loc:∀ y ∈ scope.names,y.2 = .local->scope.names.lookup y.1 = some .local:=by decide +kernel) (has:((relabel scope X.env).names.all fun y=>!(y.2 == .cell || y.2 == .free) || (cl.lookup y.1).isSome) = true:=by rfl):CScope X scope cl N' cap:=⟨kind,nocell,loc,clos,cin,has,caps⟩
theorem pgC {scope:Scope} {cl:List (Str × Addr)} {N':List Str} {pins:List (Addr × Obj)} {ex:List Addr} {s3:Shared} {H3:Hp} {x:Str} {pos:Pos} (i:Nat) (hN:N'.Nodup:=by decide +kernel) (hi:N'[i]? = some x:=by rfl) (hx:Loc (cxC X scope cl N' pins ex s3 H3).env.scope x:=by exact Or.inl rfl)
  (hf:(cxC X scope cl N' pins ex s3 H3).env.scope.names.lookup x = some .local:=by rfl):PG (cxC X scope cl N' pins ex s3 H3) (.Name x pos) (T9 i):=G9 (X:=cxC X scope cl N' pins ex s3 H3) hN hi hx (.inr hf)
end
theorem O3:bootBuiltins "len" = some (.builtin "len"):=by decide +kernel
theorem Fo:bootBuiltins "enumerate" = some (.type "enumerate"):=by decide +kernel
theorem Yo:bootBuiltins "min" = some (.builtin "min"):=by decide +kernel
theorem Nd:bootBuiltins "max" = some (.builtin "max"):=by decide +kernel
theorem Uc:bootBuiltins "abs" = some (.builtin "abs"):=by decide +kernel
theorem Q5:bootBuiltins "sorted" = some (.builtin "sorted"):=by decide +kernel
theorem Ji:bootBuiltins "int" = some (.type "int"):=by decide +kernel
theorem Iu:bootBuiltins "str" = some (.type "str"):=by decide +kernel
theorem Hx:bootBuiltins "bool" = some (.type "bool"):=by decide +kernel
theorem T1:bootBuiltins "list" = some (.type "list"):=by decide +kernel
theorem p8:bootBuiltins "tuple" = some (.type "tuple"):=by decide +kernel
theorem Pi:bootBuiltins "set" = some (.type "set"):=by decide +kernel
theorem B8:bootBuiltins "isinstance" = some (.builtin "isinstance"):=by decide +kernel
theorem Je:bootBuiltins "all" = some (.builtin "all"):=by decide +kernel
end L2
namespace L2
open PySem PySem.Spec PyProof.Rows
noncomputable def KeepAt (a:Addr) (H0 H:Hp):Prop:=∀ o,H0 a = some o->H a = some o
noncomputable def Sm (D:List Addr) (H H':Hp):Prop:=∀ b o,H b = some o->b ∉ D->H' b = some o
theorem Same.at {H0 H:Hp} (h:Same H0 H) (a:Addr):KeepAt a H0 H:=fun o e=>h a o e
theorem Same.new {H:Hp} {p:Addr} {o:HO} (h:H p = none):Same H (upd H p o):=fun b u e=>by rw [B2 (A8 e h)]; exact e
theorem Same.upd {H0 H:Hp} {p:Addr} {o:HO} (s:Same H0 H) (h:H0 p = none):Same H0 (upd H p o):=fun b u e=>by rw [B2 (A8 e h)]; exact s b u e
theorem Same.sm {D:List Addr} {H H':Hp} (h:Same H H'):Sm D H H':=fun b o e _=>h b o e
theorem Sm.refl (D:List Addr) (H:Hp):Sm D H H:=fun _ _ e _=>e
theorem Sm.trans {D:List Addr} {H H1 H2:Hp} (a:Sm D H H1) (b:Sm D H1 H2):Sm D H H2:=fun c o h n=>b c o (a c o h n) n
theorem Sm.new {D:List Addr} {H H1:Hp} {p:Addr} {o:HO} (a:Sm D H H1) (h:H1 p = none):Sm D H (L2.upd H1 p o):=fun b u e n=>by
 have:=a b u e n
 rw [B2 (A8 this h)]; exact this
theorem Sm.upd {D:List Addr} {H H1:Hp} {p:Addr} {o:HO} (a:Sm D H H1) (h:p ∈ D):Sm D H (L2.upd H1 p o):=fun b u e n=>by
 rw [B2 (show b ≠ p from fun z=>n (by rw [z]; exact h))]; exact a b u e n
theorem Sm.updN {D:List Addr} {H H1:Hp} {p:Addr} {o:HO} (a:Sm D H H1) (h:H p = none):Sm D H (L2.upd H1 p o):=fun b u e n=>by rw [B2 (A8 e h)]; exact a b u e n
theorem Sm.at {D:List Addr} {H H':Hp} (h:Sm D H H') {a:Addr} (n:a ∉ D):KeepAt a H H':=fun o e=>h a o e n
theorem KeepAt.seqL {K:PySem.W.Frag} {H H':Hp} {a:Addr} {xs:List V} (e:KeepAt a H H') (h:SqL K H a xs):SqL K H' a xs:=by
 rcases h with (h | ⟨o,h⟩) | h
 ·exact .inl (.inl (e _ h))
 ·exact .inl (.inr ⟨o,e _ h⟩)
 ·exact .inr h
theorem KeepAt.seqT {K:PySem.W.Frag} {H H':Hp} {a:Addr} {xs:List V} (e:KeepAt a H H') (h:SqT K H a xs):SqT K H' a xs:=by
 rcases h with (h | ⟨o,h⟩) | h
 ·exact .inl (.inl (e _ h))
 ·exact .inl (.inr ⟨o,e _ h⟩)
 ·exact .inr h
noncomputable def Sqs (K:PySem.W.Frag) (H:Hp) (a:Addr) (xs:List V):Prop:=SqL K H a xs\/SqT K H a xs
theorem KeepAt.seq {K:PySem.W.Frag} {H H':Hp} {a:Addr} {xs:List V} (e:KeepAt a H H') (h:Sqs K H a xs):Sqs K H' a xs:=h.imp e.seqL e.seqT
structure AsSeq (J:It) (xs:List V) (a:Addr) (H0:Hp):Prop where
 go:∀ H i,KeepAt a H0 H->i < xs.length->J.go i H
 stop:∀ H,KeepAt a H0 H->J.stop xs.length H
 yld:∀ H i x H',KeepAt a H0 H->i < xs.length->J.yld i H x H'->H' = H/\xs[i]? = some x
theorem asL {K:PySem.W.Frag} {H0:Hp} {a:Addr} {xs:List V} (h:SqL K H0 a xs):AsSeq (Itl K a) xs a H0 :=
 ⟨fun H i k hi=>⟨xs,xs[i],k.seqL h,List.getElem?_eq_getElem hi⟩,fun H k=>⟨xs,k.seqL h,Nat.le_refl _⟩,fun H i x H' k hi ⟨e,y⟩=>⟨e,y xs (k.seqL h)⟩⟩
theorem asT {K:PySem.W.Frag} {H0:Hp} {a:Addr} {xs:List V} (h:SqT K H0 a xs):AsSeq (Itt K a) xs a H0 :=
 ⟨fun H i k hi=>⟨xs,xs[i],k.seqT h,List.getElem?_eq_getElem hi⟩,fun H k=>⟨xs,k.seqT h,Nat.le_refl _⟩,fun H i x H' k hi ⟨e,y⟩=>⟨e,y xs (k.seqT h)⟩⟩
theorem Yl {K:PySem.W.Frag} {H:Hp} {σ:St} {a:Addr} {xs:List V} {R:It->Hp->Prop} {i:Nat} (hv:σ[i]? = some (some (.ref a))) (h:Sqs K H a xs) (r:∀ J,AsSeq J xs a H->R J H):zAc K (Mj i) σ H R:=by
 refine ⟨_,hv,a,rfl,?_⟩
 rcases h with h | h
 ·exact .inl ⟨⟨xs,h⟩,r _ (asL h)⟩
 ·exact .inr ⟨⟨xs,h⟩,r _ (asT h)⟩
theorem Cp {K:PySem.W.Frag} {o:Addr->HO} {cap:List (Option Nat)} {lp:Addr->It->St->Hp->(St->Hp->Prop)->Prop} {σ:St} {H:Hp} {Q:VK} {a:Addr} {xs:List V} {i:Nat} (hv:σ[i]? = some (some (.ref a))) (h:Sqs K H a xs)
  (r:∀ J,AsSeq J xs a H->∀ D,H D = none->lp D J (Ra cap σ) (upd H D (o D)) fun _ H2=>Q (.ref D) H2):Fc (zAc K (Mj i)) o cap lp σ H Q:=Yl hv h r
theorem Uz {J:It} {n:Nat} {g:TG} {tb:TS} {D:Ends} {σ:St} {H:Hp} (Pv:Nat->St->Hp->Prop) (h0:Pv 0 σ H) (hgo:∀ i σ H,i < n->Pv i σ H->J.go i H) (hst:∀ σ H,Pv n σ H->J.stop n H)
  (hs:∀ i σ H x H',i < n->Pv i σ H->J.yld i H x H'->g x σ H' fun σ2 H2=>tb { D with nx:=Pv (i + 1),ct:=Pv (i + 1),bk:=D.nx } σ2 H2) (hd:∀ σ H,Pv n σ H->D.nx σ H) :
  ∃ W:Nat->Nat->St->Hp->Prop,(∃ m,W 0 m σ H)/\∀ i m σ H,W i m σ H ->
   (J.stop i H/\D.nx σ H)\/(J.go i H/\∃ N:St->Hp->Prop,(∀ σ' H',N σ' H'->∃ m',m' < m/\W (i + 1) m' σ' H')/\∀ x H',J.yld i H x H'->g x σ H' fun σ2 H2=>tb { D with nx:=N,ct:=N,bk:=D.nx } σ2 H2):=by
 refine ⟨fun i m σ H=>m = n - i/\i<=n/\Pv i σ H,⟨n,by simp,Nat.zero_le _,h0⟩,?_⟩
 rintro i m σ H ⟨rfl,hi,p⟩
 by_cases hlt:i < n
 ·exact .inr ⟨hgo i σ H hlt p,Pv (i + 1),fun σ' H' p'=>⟨n - (i + 1),by omega,rfl,hlt,p'⟩,fun x H' y=>hs i σ H x H' hlt p y⟩
 ·have e:i = n:=by omega
  subst e
  exact .inl ⟨hst σ H p,hd σ H p⟩
theorem Zq {J:It} {xs:List V} {a:Addr} {H0:Hp} (as:AsSeq J xs a H0) {g:TG} {tb:TS} {D:Ends} {σ:St} {H:Hp} (Pv:Nat->St->Hp->Prop) (h0:Pv 0 σ H) (hk:∀ i σ H,i<=xs.length->Pv i σ H->KeepAt a H0 H)
  (hs:∀ i σ H x,xs[i]? = some x->Pv i σ H->g x σ H fun σ2 H2=>tb { D with nx:=Pv (i + 1),ct:=Pv (i + 1),bk:=D.nx } σ2 H2) (hd:∀ σ H,Pv xs.length σ H->D.nx σ H) :
  ∃ W:Nat->Nat->St->Hp->Prop,(∃ m,W 0 m σ H)/\∀ i m σ H,W i m σ H ->
   (J.stop i H/\D.nx σ H)\/(J.go i H/\∃ N:St->Hp->Prop,(∀ σ' H',N σ' H'->∃ m',m' < m/\W (i + 1) m' σ' H')/\∀ x H',J.yld i H x H'->g x σ H' fun σ2 H2=>tb { D with nx:=N,ct:=N,bk:=D.nx } σ2 H2) :=
 Uz (n:=xs.length) Pv h0 (fun i σ H hi p=>as.go H i (hk i σ H (Nat.le_of_lt hi) p) hi) (fun σ H p=>as.stop H (hk _ σ H (Nat.le_refl _) p)) (fun i σ H x H' hi p y=>by
  obtain ⟨rfl,e⟩:=as.yld H i x H' (hk i σ H (Nat.le_of_lt hi) p) hi y
  exact hs i σ _ x e p) hd
theorem Ny {J:It} {n:Nat} {g:TG} {tc:TT} {em:TEm} {σ:St} {H:Hp} {Q:St->Hp->Prop} (Pv:Nat->St->Hp->Prop) (h0:Pv 0 σ H) (hgo:∀ i σ H,i < n->Pv i σ H->J.go i H) (hst:∀ σ H,Pv n σ H->J.stop n H)
  (hs:∀ i σ H x H' (N:St->Hp->Prop),i < n->Pv i σ H->J.yld i H x H'->(∀ σ' H',Pv (i + 1) σ' H'->N σ' H')->g x σ H' fun σ2 H2=>tc σ2 H2 fun b H3=>if b = true then em σ2 H3 N else N σ2 H3)
  (hd:∀ σ H,Pv n σ H->Q σ H):Ha g tc em J σ H Q:=by
 refine ⟨fun i m σ H=>m = n - i/\i<=n/\Pv i σ H,⟨n,by simp,Nat.zero_le _,h0⟩,?_⟩
 rintro i m σ H ⟨rfl,hi,p⟩
 by_cases hlt:i < n
 ·exact .inr ⟨hgo i σ H hlt p,fun x H' y=>hs i σ H x H' _ hlt p y fun σ3 H4 p'=>⟨n - (i + 1),by omega,rfl,hlt,p'⟩⟩
 ·have e:i = n:=by omega
  subst e
  exact .inl ⟨hst σ H p,hd σ H p⟩
theorem Q3 {J:It} {xs:List V} {a:Addr} {H0:Hp} (as:AsSeq J xs a H0) {g:TG} {tc:TT} {em:TEm} {σ:St} {H:Hp} {Q:St->Hp->Prop} (Pv:Nat->St->Hp->Prop) (h0:Pv 0 σ H) (hk:∀ i σ H,i<=xs.length->Pv i σ H->KeepAt a H0 H)
  (hs:∀ i σ H x (N:St->Hp->Prop),xs[i]? = some x->Pv i σ H->(∀ σ' H',Pv (i + 1) σ' H'->N σ' H')->g x σ H fun σ2 H2=>tc σ2 H2 fun b H3=>if b = true then em σ2 H3 N else N σ2 H3)
  (hd:∀ σ H,Pv xs.length σ H->Q σ H):Ha g tc em J σ H Q :=
 Ny (n:=xs.length) Pv h0 (fun i σ H hi p=>as.go H i (hk i σ H (Nat.le_of_lt hi) p) hi) (fun σ H p=>as.stop H (hk _ σ H (Nat.le_refl _) p)) (fun i σ H x H' N hi p y hN=>by
  obtain ⟨rfl,e⟩:=as.yld H i x H' (hk i σ H (Nat.le_of_lt hi) p) hi y
  exact hs i σ _ x N e p hN) hd
theorem b8 {em:TEm} {N:St->Hp->Prop} {σ:St} {H:Hp} {i:Nat} {x:V} (h:em (σ.set i (some x)) H N):T9 i x σ H fun σ2 H2=>Sd σ2 H2 fun b H3=>if b = true then em σ2 H3 N else N σ2 H3:=by
 show if true = true then em (σ.set i (some x)) H N else N (σ.set i (some x)) H
 rw [if_pos rfl]
 exact h
end L2
namespace L2
open PySem PySem.Spec PyProof.Rows
section
variable {X:Cx} (K:PySem.W.Frag) (P:Program) (w:World) {tg:Expr}
theorem piL {l:Expr} {tl:TE} (hl:PE X l tl) (hK:X.K = K:=by rfl):PI X tg l (Xt K tl):=by subst hK; exact Uw hl
theorem piS {l:Expr} {tl:TE} (hl:PE X l tl) (hK:X.K = K:=by rfl):PI X tg l (zAc K tl):=by subst hK; exact Xh hl
theorem Zx {a:Expr} {ta:TA} {p pos:Pos} (hm:X.mg "range" = none) (ha:PA X [a] ta) (hg:Gl X "range":=by rfl) (hs:starEach [a] X.env = [(false,eval a X.env)]:=by rfl):PI X tg (.Call (.Name "range" p) [a] [] pos) (Yh ta):=Qc hg hm ha hs
theorem pgT {es:List Expr} {k:Nat} {t:TGs} {n:Nat} {pos:Pos} (h:PGs X es t) (hc:X.calm = true:=by rfl) (hn:(assignEach es X.env).length = n:=by rfl) (hst:(assignEach es X.env).findIdx? (·.1) = none:=by rfl) (hK:X.K = K:=by rfl):PG X (.Tuple es k pos) (zAe K n t):=by subst hK; exact Xu hc h hn hst
theorem peF {e:Expr} {ta:TE} {f:Str} {pos:Pos} (he:PE X e ta) (hb:attributeBase e f X.env (eval e X.env) = eval e X.env:=by rfl) (hK:X.K = K:=by rfl):PE X (.Attribute e f pos) (zCa K ta f):=by subst hK; exact Za he hb
theorem psF {o value:Expr} {ta tv:TE} {f:Str} {pos pos':Pos} (ha:PE X o ta) (hv:PE X value tv) (hs:swapsWith value (some (.Attribute o f pos')) pos.line X.env = pure false:=by rfl) (hK:X.K = K:=by rfl):PS X (.Assign [.Attribute o f pos'] value pos) (zBz K ta tv f):=by subst hK; exact Xi ha hv hs
theorem O7 (hK:X.K = K:=by rfl):E9 X (.builtin "len") (fun xs H Q=>∃ p ys,xs = [.ref p]/\(SqL K H p ys\/SqT K H p ys)/\Q (.int ys.length) H):=by subst hK; exact Gc
theorem Au (hK:X.K = K:=by rfl):E9 X (.type "list") (fun xs H Q=>∃ p ys,xs = [.ref p]/\(SqL K H p ys\/SqT K H p ys)/\∀ l,H l = none->Q (.ref l) (upd H l (.lst ys))):=by subst hK; exact Em
theorem Kj (hc:X.calm = true:=by rfl) (hK:X.K = K:=by rfl):E9 X (.builtin "all") (fun xs H Q=>∃ (p:Addr) (bs:List Bool),xs = [.ref p]/\SqL K H p (bs.map V.bl)/\Q (.bl (bs.all id)) H):=by subst hK; exact Qq hc
theorem Rw (hK:X.K = K:=by rfl):E9 X (.builtin "sorted") (fun xs H Q=>∃ (p:Addr) (ss:List Str),xs = [.ref p]/\SqL K H p (ss.map V.str)/\∀ (l:Addr) (ss':List Str),H l = none->ss'.Perm ss->ss'.Pairwise leS->Q (.ref l) (upd H l (.lst (ss'.map V.str)))):=by subst hK; exact l9
theorem Qs (hK:X.K = K:=by rfl):E9 X (.builtin "sorted") (fun xs H Q=>∃ (p:Addr) (ps:List PA2),xs = [.ref p]/\SqL K H p (ps.map fun q=>V.ref q.1)/\(∀ q ∈ ps,E6 H q)/\∀ (l:Addr) (ps':List PA2),H l = none->ps'.Perm ps->ps'.Pairwise leP->Q (.ref l) (upd H l (.lst (ps'.map fun q=>V.ref q.1)))):=by subst hK; exact Gk
theorem Dg (hc:X.calm = true:=by rfl) (hw:X.w = w:=by rfl):E9 X (.builtin "sorted") (fun xs H Q=>∃ (p:Addr) (ss:List Str),xs = [.ref p]/\H p = some (Bn w p ss)/\∀ (l:Addr) (ss':List Str),H l = none->ss'.Perm ss->ss'.Pairwise leS->Q (.ref l) (upd H l (.lst (ss'.map V.str)))):=by subst hw; exact Fr hc
theorem K7 (hK:X.K = K:=by rfl):E9 X (.builtin "isinstance") (fun xs H Q=>∃ x n t b,xs = [x,.ty n]/\TyOf K H x t/\PySem.W.kitOne K t (.type n) = some b/\Q (.bl b) H):=by subst hK; exact Mf
theorem Vq (hP:X.prog = P:=by rfl) (hw:X.w = w:=by rfl):E9 X (.type "set") (fun xs H Q=>xs = []/\∀ p,H p = none->Q (.ref p) (upd H p (Lz P w p []))):=by subst hP; subst hw; exact Oe
theorem Sa (hP:X.prog = P:=by rfl) (hw:X.w = w:=by rfl):E9 X (.type "set") (fun xs H Q=>xs = []/\∀ p,H p = none->Q (.ref p) (upd H p (Ly P w p []))):=by subst hP; subst hw; exact Li
theorem Xz (hu:X.A.units + 64 < cLine) (hK:X.K = K:=by rfl):OpR X (compareOp .In) (Wm K false):=by subst hK; exact Zj hu
theorem Dy (hu:X.A.units + 64 < cLine) (hK:X.K = K:=by rfl):OpR X (compareOp .NotIn) (Wm K true):=by subst hK; exact Pk hu
theorem Tc (hu:X.A.units + 64 < cLine) (hK:X.K = K:=by rfl):OpR X (compareOp .Eq) (zAa K):=by subst hK; exact Xd hu
theorem zAw (hu:X.A.units + 64 < cLine) (hK:X.K = K:=by rfl):OpR X (compareOp .NotEq) (zAt K):=by subst hK; exact Ws hu
theorem Ku (hK:X.K = K:=by rfl):OpR X (compareOp .In) (rIn K false):=by subst hK; exact Ol
theorem P4 (hK:X.K = K:=by rfl):OpR X (compareOp .NotIn) (rIn K true):=by subst hK; exact En
theorem zAh (hP:X.prog = P:=by rfl) (hw:X.w = w:=by rfl):OpR X (compareOp .In) (zBt P w false):=by subst hP; subst hw; exact Mu
theorem zAp (hu:X.A.units + 1 < cLine) (hP:X.prog = P:=by rfl) (hw:X.w = w:=by rfl):OpR X (compareOp .In) (zBw P w):=by subst hP; subst hw; exact Lm hu
theorem Zg (hP:X.prog = P:=by rfl) (hw:X.w = w:=by rfl):MtM X "set.add" (Yj P w):=by subst hP; subst hw; exact Zm
theorem Yy (hu:X.A.units + 1 < cLine) (hP:X.prog = P:=by rfl) (hw:X.w = w:=by rfl):MtM X "set.add" (Yb P w):=by subst hP; subst hw; exact Vn hu
theorem Tq {o e:Expr} {to:TE} {t:TA} {apos cpos:Pos} {r:V->List V->Hp->VK->Prop} (hm:MtM X "set.add" r) (ho:PE X o to) (ha:PA X [e] t)
  (hbase:attributeBase o "add" X.env (eval o X.env) = eval o X.env:=by rfl)
  (hfew:((backTo cpos (starEach [e] X.env)).all (fun x=>!x.1) && (backToKw cpos (keywordEach [] X.env)).all (fun x=>x.1.isSome)
   && decide ([e].length + ([]:List Keyword).length + (if ([]:List Keyword).isEmpty then 0 else 1) < 30)) = true:=by rfl)
  (hline:(apos.endLine == cpos.line) = true:=by rfl) (hs:starEach [e] X.env = [(false,eval e X.env)]:=by rfl) (hP:X.prog = P:=by rfl) (hw:X.w = w:=by rfl) :
  PE X (.Call (.Attribute o "add" apos) [e] [] cpos) (zBq P w r to t):=by subst hP; subst hw; exact Vt hm ho ha hbase hfew hline hs
theorem ixL (hK:X.K = K:=by rfl):IxR X (zBs K):=by subst hK; exact Vp
theorem ixT (hK:X.K = K:=by rfl):IxR X (zBl K):=by subst hK; exact Zf
theorem slL (hK:X.K = K:=by rfl):SlR X (zBy K):=by subst hK; exact Uj
theorem ptV {a:Expr} {ta:TE} (ha:PE X a ta) (he:∀ whole,isTrue a X.env whole = (do let v <-whole; standAt a.pos; holding [v] (truthy v)):=by intro _; rfl) (hK:X.K = K:=by rfl):PT X a (fun σ H Q=>ta σ H fun x H'=>∃ k,zAj K x H' k/\Q k H'):=by subst hK; exact Qw ha he
theorem Iy {T id:String} {name:Str} {o e:Expr} {es:List Expr} {to:TE} {t:TA} {apos cpos:Pos} {r:V->List V->Hp->VK->Prop} (pa:PlainAttrs T) (slot:Slot T name id) (hty:typeOf (.builtin id) = pure (.type "method_descriptor")) (hm:MtM X id r) (ho:PE X o to) (ha:PA X (e :: es) t)
  (hbase:attributeBase o name X.env (eval o X.env) = eval o X.env:=by rfl)
  (hfew:((backTo cpos (starEach (e :: es) X.env)).all (fun x=>!x.1) && (backToKw cpos (keywordEach [] X.env)).all (fun x=>x.1.isSome)
   && decide ((e :: es).length + ([]:List Keyword).length + (if ([]:List Keyword).isEmpty then 0 else 1) < 30)) = true:=by rfl)
  (hline:(apos.endLine == cpos.line) = true:=by rfl) (hs:starEach (e :: es) X.env = (false,eval e X.env) :: starEach es X.env:=by rfl) (hplain:(backTo cpos (starEach es X.env)).any (·.1) = false:=by rfl) (hK:X.K = K:=by rfl) :
  PE X (.Call (.Attribute o name apos) (e :: es) [] cpos) (tBM K T r to t):=by subst hK; exact zAx pa slot hty hm ho ha hbase hfew hline hs hplain
theorem Sy {T id:String} {name:Str} {o:Expr} {to:TE} {apos cpos:Pos} {r:V->List V->Hp->VK->Prop} (pa:PlainAttrs T) (slot:Slot T name id) (hty:typeOf (.builtin id) = pure (.type "method_descriptor")) (hm:MtM X id r) (ho:PE X o to)
  (hbase:attributeBase o name X.env (eval o X.env) = eval o X.env:=by rfl) (hline:(apos.endLine == cpos.line) = true:=by rfl) (hK:X.K = K:=by rfl):PE X (.Call (.Attribute o name apos) [] [] cpos) (zCe K T r to):=by subst hK; exact Zw pa slot hty hm ho hbase hline
end
section
variable {X:Cx} {tg iter elt tg2 iter2:Expr} {g g2:TG} {tc tc2:TT} {te:TE} {ifs ifs2:List Expr} {scope:Scope} {cl:List (Str × Addr)} {N':List Str} {cap:List (Option Nat)} {pos:Pos} {wi wi2:TI}
theorem Zn (w:World) (S:CScope X scope cl N' cap) (hi:PI X tg iter wi)
  (hb:∀ (pins:List (Addr × Obj)) (ex:List Addr) (s3:Shared) (H3:Hp),PG (cxC X scope cl N' pins ex s3 H3) tg g/\PTs (cxC X scope cl N' pins ex s3 H3) ifs tc/\PI (cxC X scope cl N' pins ex s3 H3) tg2 iter2 wi2 /\
   PG (cxC X scope cl N' pins ex s3 H3) tg2 g2/\PTs (cxC X scope cl N' pins ex s3 H3) ifs2 tc2/\PE (cxC X scope cl N' pins ex s3 H3) elt te)
  (hc:X.calm = true:=by rfl) (hs:∀ x,foldedSetIterable iter X.env x = pure x:=by intro _; rfl) (hs2:∀ env x,foldedSetIterable iter2 env x = pure x:=by intro _ _; rfl) (hw:X.w = w:=by rfl) :
  PE X (.SetComp elt [⟨tg,iter,ifs,0⟩,⟨tg2,iter2,ifs2,0⟩] scope pos) (Fc wi (fun D=>Bn w D []) cap fun D J σ H Q=>Ha g tc (zAk wi2 fun J σ H Q=>Ha g2 tc2 (Fh w D te) J σ H Q) J σ H Q):=by
 subst hw
 exact Wd S hc hi hb hs hs2
end
end L2
namespace L2
open PySem PySem.Spec PyProof.Rows
section
variable {prog:Program} {w:World} {A:Around} {E:Value->Shared->Prop} {s:Shared}
theorem Hm {t:Addr} {vs:List Value} {Q:List Value->Shared->Prop} (ht:IsTup s.heap t vs.toArray) (hsz:vs.length<=sizeLine) (h:∀ h',(∀ b u,s.heap.get? b = some u->h'.get? b = some u)->s.heap.objs.size<=h'.objs.size->Q vs { s with heap:=h' }):wpAny (model prog w) A (collect (.ref t)) Q E s:=by
 obtain ⟨o,ho,hc,n,hd⟩:=ht
 unfold collect
 refine wpAny_bind (wpAny_runValue (codeAny_builtin F.entry_proto_collect ?_))
 rw [show A.under _ = A.in1 from Around.under_plainId F.plain_proto_collect _]
 show wpAny _ A.in1 (newList [] >>= fun l=>again (.builtin "list.__iadd__" ⟨[l,.ref t],[]⟩)) _ _ s
 refine wpAny_bind (wpAny_newObj_type (wpAny_pure ⟨plainId_quiet F.plain_list_iadd _,codeAny_builtin F.entry_list_iadd ?_⟩))
 rw [show A.under _ = A.in1 from Around.under_plainId F.plain_list_iadd _]
 show wpAny _ A.in1 (Builtin.List.listExtendWith (.ref s.heap.objs.size) (.ref t) (.ref s.heap.objs.size)) _ _ _
 have g1:(s.heap.push { cls:=.type "list",data:=.seq ([]:List Value).toArray }).get? s.heap.objs.size = some { cls:=.type "list",data:=.seq #[] 0 }:=Heap.get?_push_size _ rfl
 have g2:=Heap.get?_update_self (Obj.mapSeq (· ++ vs.toArray)) g1 rfl
 have fin:wpAny (model prog w) A (match Value.ref s.heap.objs.size with
   | Value.ref a=>do
    match (<-load a).data with
     | Data.seq xs _=>pure xs.toList
     | _=>unsupported "internal:collect"
   | _=>unsupported "internal:collect") Q E { s with heap:=(s.heap.push { cls:=.type "list",data:=.seq ([]:List Value).toArray }).update s.heap.objs.size (Obj.mapSeq (· ++ vs.toArray)) }:=by
  show wpAny _ A (load s.heap.objs.size >>= _) _ _ _
  refine wpAny_bind (wpAny_load g2 (wpAny_pure ?_))
  show Q ((#[]:Array Value) ++ vs.toArray).toList _
  rw [show ((#[]:Array Value) ++ vs.toArray).toList = vs from by simp]
  exact h _ (fun b u hb=>(Heap.get?_update_other _ _ (Nat.ne_of_gt (Heap.lt_size hb))).trans (Heap.get?_push_of_some _ hb)) (by rw [Heap.size_update,Heap.size_push]; omega)
 refine wpAny_mono (wpAny_extend_seq (A:=A) (hsz:=by rw [List.size_toArray]; exact hsz) (R:=fun r s'=>r = .ok (.ret (.ref s.heap.objs.size))/\s' = { s with heap:=(s.heap.push { cls:=.type "list",data:=.seq ([]:List Value).toArray }).update s.heap.objs.size (Obj.mapSeq (· ++ vs.toArray)) })
  (s:={ s with heap:=s.heap.push { cls:=.type "list",data:=.seq ([]:List Value).toArray } }) _ t _ 0 (.inr rfl) g1 (Heap.get?_push_of_some _ ho) hc hd ⟨rfl,rfl⟩) (fun f s' z=>?_) (fun e s' z=>absurd z.1 (by simp))
 match f,z with
 | .done f,⟨e1,e2⟩=>subst e2; cases e1; exact fin
 | .again c,z=>exact ⟨z.1,codeAny_mono z.2 fun r s2 hr=>by obtain ⟨rfl,rfl⟩:=hr; exact fin⟩
end
section
variable {X:Cx}
theorem El:E9 X (.builtin "sorted") (fun xs H Q=>∃ (p:Addr) (ss:List Str),xs = [.ref p]/\Sqs X.K H p (ss.map V.str)/\∀ (l:Addr) (ss':List Str),H l = none->ss'.Perm ss->ss'.Pairwise leS->Q (.ref l) (upd H l (.lst (ss'.map V.str)))):=by
 intro pins s σ H xs us Q I r h
 obtain ⟨p,ss,rfl,hq,q⟩:=h
 rcases hq with hq | hq
 ·exact l9 pins s σ H _ us Q I r ⟨p,ss,rfl,hq,q⟩
 obtain ⟨u,rfl,ru⟩:=X1 r
 cases ru
 obtain ⟨its,rv,⟨o,ho,hc,n,hd⟩,hz⟩:=I.tuple hq
 have hS:=Y2 rv
 have hl:=rv.length
 refine TS.sorted_gen (Hm ⟨o,ho,hc,n,hd⟩ (by omega) fun h0 k0 hsz=>?_)
 refine ⟨rfl,by omega,strKind,oneType',fun s2 _=>TS.keys_strs hS,fun out h' e ho k hg=>?_⟩
 obtain ⟨hp,hs⟩:=ho
 have hm:∀ v ∈ out.toList,∃ x t,v = .str x t:=fun v hv=>hS.all v (hp.mem_iff.mp hv)
 have hv:Vals ((out.toList.map strOf).map V.str) out.toList:=by
  have:∀ us:List Value,(∀ v ∈ us,∃ x t,v = .str x t)->Vals ((us.map strOf).map V.str) us:=by
   intro us
   induction us with
   | nil=>exact fun _=>.nil
   | cons v r ih =>
    intro h
    obtain ⟨x,t,rfl⟩:=h v (List.mem_cons_self ..)
    exact .cons ⟨t,rfl⟩ (ih fun u hu=>h u (List.mem_cons_of_mem _ hu))
  exact this _ hm
 have hperm:(out.toList.map strOf).Perm ss:=by
  have:=hp.map strOf
  rwa [hS.strs] at this
 have hpw:(out.toList.map strOf).Pairwise leS:=by
  rw [List.pairwise_map]
  refine (List.Pairwise.and_mem.mp hs).imp fun {u v} ⟨hu,hv',q⟩=>?_
  obtain ⟨x,t,rfl⟩:=hm u hu
  obtain ⟨y,t',rfl⟩:=hm v hv'
  have q':decide (y.cps.toList < x.cps.toList) = false:=q
  exact of_decide_eq_false q'
 have hk0:∀ b o,s.heap.get? b = some o->h'.get? b = some o:=fun b o eb=>k b o (k0 b o eb)
 refine ⟨.ref h0.objs.size,upd H h0.objs.size (.lst ((out.toList.map strOf).map V.str)),?_,rfl,q _ _ (I.hok.fresh hsz) hperm hpw⟩
 refine I.laid (t':=s.toks) hk0 hsz ⟨?_,out.toList,e,hv,by simpa using hg⟩
 rw [List.length_map,List.length_map,hp.length_eq]
 omega
theorem Kl {pins:List (Addr × Obj)} {σ:St} {H:Hp} {s:Shared} {A:Around} {E:Value->Shared->Prop} {Q:Value->Shared->Prop} {b:Bool} {x:V} {u t:Value} {tp:Addr} {its:List Value} (I:Inv X pins σ H s) (rx:RelV x u) (ty:TyOf X.K H x t) (htp:IsTup s.heap tp its.toArray) (e:PySem.W.kitAny X.K t its = some b) (hv:(∃ y,x = .str y)\/(∃ a xs,x = .ref a/\(H a = some (.lst xs)\/H a = some (.tup xs)))) (h:∀ tk,Q (.bool b) { s with toks:=tk }) :
  wpAny (model X.prog X.w) A (call (.builtin "isinstance") [u,.ref tp]) Q E s:=by
 obtain ⟨⟨oc,od,odt,osl⟩,ho,hc,n,hd⟩:=htp
 cases hc
 cases hd
 rcases hv with ⟨y,rfl⟩ | ⟨a,xs,rfl,ea | ea⟩
 ·cases ty
  obtain ⟨t,q⟩:=(show ∃ t,u = Value.str y t from rx)
  cases q
  exact PySem.W.kia_tup PySem.W.kitx_str I.kIn True.intro ho e (fun z=>nomatch z) h
 ·cases (show u = Value.ref a from rx)
  have hty:t = .type "list":=by cases ty with
   | lst=>rfl
   | frz=>rfl
   | tup ea'=>rw [ea] at ea'; cases ea'
   | dK ea'=>rw [ea] at ea'; cases ea'
   | dT ea'=>rw [ea] at ea'; cases ea'
   | ins ea'=>rw [ea] at ea'; cases ea'
  subst hty
  obtain ⟨_,_,n,_,h1⟩:=(show ObjOk X.prog X.w H s.heap a (.lst xs) from I.hok a _ ea)
  exact PySem.W.kia_tup PySem.W.kitx_list I.kIn ⟨_,h1,rfl⟩ ho e (fun z=>nomatch z) h
 ·cases (show u = Value.ref a from rx)
  have hty:t = .type "tuple":=by cases ty with
   | tup=>rfl
   | frz ea'=>rw [ea] at ea'; cases ea'
   | lst ea'=>rw [ea] at ea'; cases ea'
   | dK ea'=>rw [ea] at ea'; cases ea'
   | dT ea'=>rw [ea] at ea'; cases ea'
   | ins ea'=>rw [ea] at ea'; cases ea'
  subst hty
  obtain ⟨_,_,_,p⟩:=(show ObjOk X.prog X.w H s.heap a (.tup xs) from I.hok a _ ea)
  obtain ⟨o,h1,h2,_⟩:=p
  exact PySem.W.kia_tup PySem.W.kitx_tuple I.kIn ⟨o,h1,h2⟩ ho e (fun z=>nomatch z) h
noncomputable def Wf (K:PySem.W.Frag):List V->Hp->VK->Prop:=fun xs H Q=>∃ (x:V) (p:Addr) (ns:List String) (t:Value) (b:Bool),xs = [x,.ref p]/\H p = some (.tup (ns.map V.ty))/\TyOf K H x t/\((∃ y,x = .str y)\/(∃ a xs,x = .ref a/\(H a = some (.lst xs)\/H a = some (.tup xs))))/\PySem.W.kitAny K t (ns.map Value.type) = some b/\Q (.bl b) H
theorem Ic:∀ {ns:List String} {us:List Value},Vals (ns.map V.ty) us->us = ns.map Value.type
 | [],_,.nil=>rfl
 | _ :: _,_,.cons r t=>by rw [List.map_cons,Ic t]; cases r; rfl
theorem Lx:E9 X (.builtin "isinstance") (Wf X.K):=by
 intro pins s σ H xs us Q I r h
 obtain ⟨x,p,ns,t,b,rfl,hp,ht,hv,he,q⟩:=h
 obtain ⟨u,v,rfl,ru,rv⟩:=r.two
 cases rv
 obtain ⟨its,rv,pl,hz⟩:=I.tuple (SqT.of hp)
 rw [Ic rv] at pl
 exact Kl I ru ht pl he hv fun tk=>⟨.bl b,H,I.tok _,rfl,q⟩
variable (K:PySem.W.Frag)
theorem Ro (hK:X.K = K:=by rfl):E9 X (.builtin "sorted") (fun xs H Q=>∃ (p:Addr) (ss:List Str),xs = [.ref p]/\Sqs K H p (ss.map V.str)/\∀ (l:Addr) (ss':List Str),H l = none->ss'.Perm ss->ss'.Pairwise leS->Q (.ref l) (upd H l (.lst (ss'.map V.str)))):=by subst hK; exact El
theorem Qu (hK:X.K = K:=by rfl):E9 X (.builtin "isinstance") (Wf K):=by subst hK; exact Lx
end
end L2
namespace L2
open PySem PySem.Spec PyProof.Rows
section
variable {prog:Program} {w:World} {A:Around} {E:Value->Shared->Prop} {s:Shared} {it l:Addr} {i:Nat} {items:Array Value} {x:Value} {Q:Value->Shared->Prop}
theorem Vk {α:Type} {Q:α->Shared->Prop} (hA:A.handled = none) (h:∀ h' e,(∀ b o,s.heap.get? b = some o->h'.get? b = some o)->(∃ o,h'.get? e = some o/\o.cls = .type "StopIteration")->E (.ref e) { s with heap:=h' }):wpAny (model prog w) A (Builtin.SmallTypes.stopIteration (α:=α)) Q E s:=by
 refine wpAny_bind (wpAny_bind (wpAny_newTuple (wpAny_bind (wpAny_pure (wpAny_newObj_type ?_ (sizeOk_excFields ..)))) (by show 0<=sizeLine; decide)))
 refine wpAny_bind (wpAny_handled ?_)
 rw [hA]
 exact wpAny_throw (h _ _ (fun b o e=>Heap.get?_push_of_some _ (Heap.get?_push_of_some _ e)) ⟨_,Heap.get?_push_size _ rfl,rfl⟩)
theorem O5 (hit:s.heap.IsTupleIter it l i) (hl:s.heap.IsTuple l items) (hx:items[i]? = some x)
  (hQ:∀ h',h'.IsTupleIter it l (i + 1)->Heap.SameBut it s.heap h'->Q x { s with heap:=h' }):wpAny (model prog w) A (Builtin.SmallTypes.nextOf (.ref it)) Q E s:=by
 obtain ⟨o,ho,hc,hd⟩:=id hit
 obtain ⟨ol,hol,_,nl,hdl⟩:=hl
 refine wpAny_bind (wpAny_callSpecial?_slot hit.typeIs F.slot_tuple_iterator_next (wpAny_call_entry F.slot_tuple_iterator_next hit.typeIs F.entry_tuple_iterator_next ?_ (F.args_tuple_iterator_next_1 _)))
 refine wpAny_bind (wpAny_pure (wpAny_bind (wpAny_field ho hd rfl ?_)))
 refine wpAny_ite_false (c:=(Value.ref l == Value.none) = true) rfl ?_
 refine wpAny_bind (wpAny_field ho hd rfl (wpAny_bind (wpAny_seqItems hol hdl ?_)))
 dsimp only
 rw [show items[(i:Int).toNat]? = some x from hx]
 refine wpAny_bind (wpAny_setField ho hd (Nat.lt_succ_self 1) (wpAny_pure ⟨x,rfl,wpAny_pure (hQ _ ⟨_,Heap.get?_update_self _ ho (Obj.isFreed_of_fields (Obj.data_mapFields hd _)),(Obj.cls_mapFields o _).trans hc,(Obj.data_mapFields hd _).trans ?_⟩ (Heap.SameBut.update _ _ _))⟩))
 rfl
theorem U2 (hA:A.handled = none) (hit:s.heap.IsTupleIter it l i) (hl:s.heap.IsTuple l items) (hx:items[i]? = none)
  (hE:∀ h' e,Heap.ExtBut it s.heap h'->(∃ o,h'.get? e = some o/\o.cls = .type "StopIteration")->E (.ref e) { s with heap:=h' }):wpAny (model prog w) A (Builtin.SmallTypes.nextOf (.ref it)) Q E s:=by
 obtain ⟨o,ho,hc,hd⟩:=id hit
 obtain ⟨ol,hol,_,nl,hdl⟩:=hl
 refine wpAny_bind (wpAny_callSpecial?_slot hit.typeIs F.slot_tuple_iterator_next (wpAny_call_entry F.slot_tuple_iterator_next hit.typeIs F.entry_tuple_iterator_next ?_ (F.args_tuple_iterator_next_1 _)))
 refine wpAny_bind (wpAny_pure (wpAny_bind (wpAny_field ho hd rfl ?_)))
 refine wpAny_ite_false (c:=(Value.ref l == Value.none) = true) rfl ?_
 refine wpAny_bind (wpAny_field ho hd rfl (wpAny_bind (wpAny_seqItems hol hdl ?_)))
 dsimp only
 rw [show items[(i:Int).toNat]? = none from hx]
 refine wpAny_bind (wpAny_rule (wpAny_bind (wpAny_setField ho hd (Nat.zero_lt_succ 1) ?_)))
 exact Vk hA fun h' e k ho=>hE h' e (fun b o hb e=>k b o (((Heap.SameBut.update _ _ _).2 b hb).trans e)) ho
theorem Ob {M:Model} {α β:Type} {a b:α} {i u v:β} {f:α->β->Sem (ForInStep β)} {Q:β->Shared->Prop} (h:wpAny M A (f a i) (fun r s'=>r = .yield u/\wpAny M A (f b u) (fun r s'=>r = .yield v/\Q v s') E s') E s):wpAny M A (forIn [a,b] i f) Q E s:=by
 rw [List.forIn_cons]
 refine wpAny_bind (wpAny_mono h (fun r s' z=>?_) fun e s' z=>z)
 obtain ⟨rfl,z⟩:=z
 show wpAny M A (forIn [b] u f) Q E s'
 rw [List.forIn_cons]
 refine wpAny_bind (wpAny_mono z (fun r s' z=>?_) fun e s' z=>z)
 obtain ⟨rfl,z⟩:=z
 exact wpAny_pure z
theorem Be {z TI TO i1 i2 l1 l2:Addr} {k1 k2:Nat} {xs ys:Array Value} {x y a b:Value} (D:ZipApart z TI TO i1 i2 l1 l2) (hz:IsZip s.heap z TI TO .none) (hti:IsPair s.heap TI (.ref i1) (.ref i2)) (hto:IsPair s.heap TO a b)
  (h1:s.heap.IsTupleIter i1 l1 k1) (h2:s.heap.IsTupleIter i2 l2 k2) (g1:s.heap.IsTuple l1 xs) (g2:s.heap.IsTuple l2 ys) (hx:xs[k1]? = some x) (hy:ys[k2]? = some y)
  (hQ:∀ h',IsZip h' z TI TO (rawInt s.heap.objs.size)->IsPair h' TO x y->h'.IsTupleIter i1 l1 (k1 + 1)->h'.IsTupleIter i2 l2 (k2 + 1)->IsPair h' s.heap.objs.size x y->h'.objs.size = s.heap.objs.size + 1->(∀ c o,c ≠ z->c ≠ TO->c ≠ i1->c ≠ i2->s.heap.get? c = some o->h'.get? c = some o)->Q (.ref s.heap.objs.size) { s with heap:=h' }) :
  wpAny (model prog w) A (Builtin.«zip.__next__» ⟨[.ref z],[]⟩) (fun fin s'=>∃ v,fin = .done (.ret v)/\Q v s') E s:=by
 obtain ⟨h0,gg,dd,tt,oo⟩:=s
 refine wpAny_bind (wpAny_pure (wpAny_bind (wpAny_field hz rfl rfl (wpAny_bind (wpAny_field hz rfl rfl (wpAny_bind (wpAny_seqItems hti rfl ?_)))))))
 refine wpAny_ite_false rfl (wpAny_bind (wpAny_bind (wpAny_field hz rfl rfl (wpAny_pure (wpAny_ite_true rfl ?_)))))
 refine wpAny_bind (wpAny_rule (wpAny_bind (wpAny_field hz rfl rfl (wpAny_bind (wpAny_setField_rec hz (Nat.zero_lt_succ 4) fun h3 z3 s3=>?_)))))
 have a3:=h1.extBut s3.extBut D.i1z
 have b3:=h2.extBut s3.extBut D.i2z
 have c3:=g1.extBut s3.extBut D.l1z
 have d3:=g2.extBut s3.extBut D.l2z
 have e3:=(s3.2 TO D.TOz).trans hto
 refine wpAny_bind ?_
 rw [show (#[Value.ref i1,Value.ref i2].toList.zipIdx) = [(Value.ref i1,0),(Value.ref i2,1)] from rfl]
 refine Ob (u:=(none,())) (v:=(none,())) ?_
 refine wpAny_bind (wpAny_onRaise (wpAny_ite_false rfl (wpAny_bind (O5 a3 c3 hx fun h4 a4 s4=>wpAny_pure ?_))))
 have e4:=(s4.2 TO D.TOi1).trans e3
 refine wpAny_bind (wpAny_seqItems e4 rfl (wpAny_bind (wpAny_updateSeq_pair e4 fun h5 e5 s5=>wpAny_bind (wpAny_letGo (wpAny_pure ⟨rfl,?_⟩)))))
 have b5:=(b3.extBut s4.extBut D.i12.symm).extBut s5.extBut D.TOi2.symm
 have d5:=(d3.extBut s4.extBut D.l2i1).extBut s5.extBut D.l2TO
 refine wpAny_bind (wpAny_onRaise (wpAny_ite_false rfl (wpAny_bind (O5 b5 d5 hy fun h6 b6 s6=>wpAny_pure ?_))))
 have e6:=(s6.2 TO D.TOi2).trans e5
 refine wpAny_bind (wpAny_seqItems e6 rfl (wpAny_bind (wpAny_updateSeq_pair e6 fun h7 e7 s7=>wpAny_bind (wpAny_letGo (wpAny_pure ⟨rfl,?_⟩)))))
 have z7:=(s7.2 z D.TOz.symm).trans ((s6.2 z D.i2z.symm).trans ((s5.2 z D.TOz.symm).trans ((s4.2 z D.i1z.symm).trans z3)))
 have hs:h7.objs.size = h0.objs.size:=s7.1.trans (s6.1.trans (s5.1.trans (s4.1.trans s3.1)))
 have n0:∀ {c:Addr} {o:Obj},h0.get? c = some o->c ≠ h7.objs.size:=fun e=>by rw [hs]; exact Nat.ne_of_lt (Heap.lt_size e)
 refine wpAny_bind (wpAny_seqItems e7 rfl (wpAny_bind (wpAny_newTuple (wpAny_bind (wpAny_bind (wpAny_setField_rec (Heap.get?_push_of_some _ z7) (Nat.zero_lt_succ 4) fun h8 z8 s8=>wpAny_setField_rec z8 (Nat.succ_lt_succ (Nat.zero_lt_succ 3)) fun h9 z9 s9=>wpAny_pure ⟨_,rfl,?_⟩))) (by show 2<=sizeLine; decide))))
 have k9:∀ {c:Addr} {o:Obj},c ≠ z->h7.get? c = some o->h9.get? c = some o:=fun nz e=>(s9.2 _ nz).trans ((s8.2 _ nz).trans (Heap.get?_push_of_some _ e))
 have sz9:h9.objs.size = h0.objs.size + 1:=s9.1.trans (s8.1.trans ((Heap.size_push ..).trans (congrArg (· + 1) hs)))
 have tk:h9.get? h7.objs.size = some ⟨.type "tuple",none,.seq #[x,y],#[]⟩:=(s9.2 _ (n0 hz).symm).trans ((s8.2 _ (n0 hz).symm).trans (Heap.get?_push_size _ rfl))
 rw [hs] at z9 tk ⊢
 refine hQ h9 z9 (k9 D.TOz e7) (a4.at fun o e=>?_) (b6.at fun o e=>?_) tk sz9 fun c o nz nt n1 n2 e=>k9 nz ?_
 ·exact k9 D.i1z ((s7.2 _ D.TOi1.symm).trans ((s6.2 _ D.i12).trans ((s5.2 _ D.TOi1.symm).trans e)))
 ·exact k9 D.i2z ((s7.2 _ D.TOi2.symm).trans e)
 ·exact (s7.2 _ nt).trans ((s6.2 _ n2).trans ((s5.2 _ nt).trans ((s4.2 _ n1).trans ((s3.2 _ nz).trans e))))
theorem Cy {z TI TO i1 i2 l1 l2:Addr} {k1:Nat} {xs:Array Value} {Q:PySem.Fin->Shared->Prop} (hA:A.handled = none) (D:ZipApart z TI TO i1 i2 l1 l2) (hz:IsZip s.heap z TI TO .none) (hti:IsPair s.heap TI (.ref i1) (.ref i2))
  (h1:s.heap.IsTupleIter i1 l1 k1) (g1:s.heap.IsTuple l1 xs) (hx:xs[k1]? = none)
  (hE:∀ h' e,(∀ c o,c ≠ z->c ≠ TO->c ≠ i1->c ≠ i2->s.heap.get? c = some o->h'.get? c = some o)->(∃ o,h'.get? e = some o/\o.cls = .type "StopIteration")->E (.ref e) { s with heap:=h' }) :
  wpAny (model prog w) A (Builtin.«zip.__next__» ⟨[.ref z],[]⟩) Q E s:=by
 obtain ⟨h0,gg,dd,tt,oo⟩:=s
 refine wpAny_bind (wpAny_pure (wpAny_bind (wpAny_field hz rfl rfl (wpAny_bind (wpAny_field hz rfl rfl (wpAny_bind (wpAny_seqItems hti rfl ?_)))))))
 refine wpAny_ite_false rfl (wpAny_bind (wpAny_bind (wpAny_field hz rfl rfl (wpAny_pure (wpAny_ite_true rfl ?_)))))
 refine wpAny_bind (wpAny_rule (wpAny_bind (wpAny_field hz rfl rfl (wpAny_bind (wpAny_setField_rec hz (Nat.zero_lt_succ 4) fun h3 z3 s3=>?_)))))
 refine wpAny_bind ?_
 rw [show (#[Value.ref i1,Value.ref i2].toList.zipIdx) = [(Value.ref i1,0),(Value.ref i2,1)] from rfl,List.forIn_cons]
 refine wpAny_bind (wpAny_bind (wpAny_onRaise (wpAny_ite_false rfl (wpAny_bind (U2 hA (h1.extBut s3.extBut D.i1z) (g1.extBut s3.extBut D.l1z) hx fun h4 e k4 ho=>?_)))))
 refine wpAny_setField_rec (k4 z _ D.i1z.symm z3) (Nat.zero_lt_succ 4) fun h5 z5 s5=>hE h5 e (fun c o nz _ n1 _ e=>(s5.2 _ nz).trans (k4 c o n1 ((s3.2 _ nz).trans e))) ?_
 obtain ⟨o,ho,hc⟩:=ho
 have ne:e ≠ z:=fun q=>by
  subst q
  rw [k4 e _ D.i1z.symm z3] at ho
  cases ho
  exact absurd (show Value.type "zip" = .type "StopIteration" from hc) (by decide)
 exact ⟨o,(s5.2 _ ne).trans ho,hc⟩
theorem Jx {z TI TO:Addr} {f0:Value} (hz:IsZip s.heap z TI TO f0):s.TypeIs (.ref z) "zip":=⟨_,hz,rfl⟩
theorem Um (hA:A.handled = none) (z TI TO i1 i2 l1 l2:Addr) (D:ZipApart z TI TO i1 i2 l1 l2) (xs ys:Array Value) (hl:xs.size<=ys.size) :
  WalksT prog w A z [z,TI,TO,i1,i2,l1,l2] [z,TO,i1,i2] xs.size (fun i vals=>∃ x y,xs[i]? = some x/\ys[i]? = some y/\vals = #[x,y])
   (fun i h=>IsZip h z TI TO .none/\IsPair h TI (.ref i1) (.ref i2)/\(∃ a b,IsPair h TO a b)/\h.IsTupleIter i1 l1 i/\h.IsTupleIter i2 l2 i/\h.IsTuple l1 xs/\h.IsTuple l2 ys)
   (fun i T h=>IsZip h z TI TO (rawInt T)/\IsPair h TI (.ref i1) (.ref i2)/\(∃ a b,IsPair h TO a b)/\h.IsTupleIter i1 l1 (i + 1)/\h.IsTupleIter i2 l2 (i + 1)/\h.IsTuple l1 xs/\h.IsTuple l2 ys/\T ≠ z/\T ≠ TO/\T ≠ i1/\T ≠ i2) where
 sub:=by simp
 frame:=fun i h h' ⟨h1,h2,⟨a,b,h3⟩,h4,h5,h6,h7⟩ k=>⟨k z (by simp) _ h1,k TI (by simp) _ h2,⟨a,b,k TO (by simp) _ h3⟩,h4.at (k i1 (by simp)),h5.at (k i2 (by simp)),h6.at (k l1 (by simp)),h7.at (k l2 (by simp))⟩
 item:=fun i s Q E hi ⟨h1,h2,⟨a,b,h3⟩,h4,h5,h6,h7⟩ hQ=>by
  have hx:xs[i]? = some xs[i]:=Array.getElem?_eq_getElem hi
  have hy:ys[i]? = some (ys[i]'(Nat.lt_of_lt_of_le hi hl)):=Array.getElem?_eq_getElem _
  refine wpAny_bind (wpAny_attempt (wpAny_callSpecial?_slot (Jx h1) F.slot_zip_next (wpAny_call_entry F.slot_zip_next (Jx h1) F.entry_zip_next (Be D h1 h2 h3 h4 h5 h6 h7 hx hy fun h' z' o' a' b' t' sz k=>wpAny_pure ?_) (F.args_zip_next_1 _))))
  refine hQ _ _ h' s.toks ⟨_,_,hx,hy,rfl⟩ (Nat.le_refl _) ⟨_,t',rfl,_,rfl⟩ ⟨z',k TI _ D.TIz D.TITO D.TIi1 D.TIi2 h2,⟨_,_,o'⟩,a',b',h6.at fun o e=>k l1 o D.l1z D.l1TO D.l1i1 D.l1i2 e,h7.at fun o e=>k l2 o D.l2z D.l2TO D.l2i1 D.l2i2 e,?_,?_,?_,?_⟩ fun b o hb e=>?_
  ·exact (Nat.ne_of_lt (Heap.lt_size h1)).symm
  ·exact (Nat.ne_of_lt (Heap.lt_size h3)).symm
  ·obtain ⟨o,e,_⟩:=h4
   exact (Nat.ne_of_lt (Heap.lt_size e)).symm
  ·obtain ⟨o,e,_⟩:=h5
   exact (Nat.ne_of_lt (Heap.lt_size e)).symm
  ·simp only [List.mem_cons,List.not_mem_nil,or_false,not_or] at hb
   exact k b o hb.1 hb.2.1 hb.2.2.1 hb.2.2.2 e
 go:=fun elts k pos i T s Q E ⟨h1,h2,⟨a,b,h3⟩,h4,h5,h6,h7,_⟩ hQ=>wpAny_letOwnedTupleGo_zip h1 fun h' z' k'=>hQ h' ⟨z',(k'.2 _ D.TIz).trans h2,⟨a,b,(k'.2 _ D.TOz).trans h3⟩,h4.extBut k'.extBut D.i1z,h5.extBut k'.extBut D.i2z,h6.extBut k'.extBut D.l1z,h7.extBut k'.extBut D.l2z⟩ fun b o hb e=>(k'.2 b fun q=>hb (by rw [q]; exact List.mem_cons_self ..)).trans e
 apart:=fun i T h ⟨_,_,_,_,_,_,_,n1,n2,n3,n4⟩ hm=>by
  simp only [List.mem_cons,List.not_mem_nil,or_false] at hm
  rcases hm with e | e | e | e
  ·exact n1 e
  ·exact n2 e
  ·exact n3 e
  ·exact n4 e
 done:=fun s Q E ⟨h1,h2,⟨a,b,h3⟩,h4,h5,h6,h7⟩ hQ=>by
  have hx:xs[xs.size]? = none:=Array.getElem?_eq_none (Nat.le_refl _)
  refine wpAny_bind (wpAny_attempt (wpAny_callSpecial?_slot (Jx h1) F.slot_zip_next (wpAny_call_entry F.slot_zip_next (Jx h1) F.entry_zip_next (Cy hA D h1 h2 h4 h6 hx fun h' e k ho=>?_) (F.args_zip_next_1 _))))
  obtain ⟨o,ho,hc⟩:=ho
  refine wpAny_bind (wpAny_isInstance ⟨o,ho,hc⟩ isSubtype_stop (wpAny_pure (hQ h' s.toks fun b o hb e=>?_)))
  simp only [List.mem_cons,List.not_mem_nil,or_false,not_or] at hb
  exact k b o hb.1 hb.2.1 hb.2.2.1 hb.2.2.2 e
 self:=fun i s Q E ⟨h1,_⟩ q=>wpAny_pyIter_zip h1 q
end
end L2
namespace L2
open PySem PySem.Spec PyProof.Rows
section
variable {prog:Program} {w:World} {A:Around} {E:Value->Shared->Prop} {s:Shared}
theorem l7 {M:Model} {T:String} {vs:List Value} {Q:Value->Shared->Prop} (h:Q (.ref s.heap.objs.size) { s with heap:=s.heap.push { cls:=.type T,data:=.fields vs.toArray } }) (hs:sizeOk (.fields vs.toArray)):wpAny M A (Builtin.SmallTypes.newRecord (.type T) vs) Q E s:=wpAny_newObj_type h hs
theorem Ms {l1 l2:Addr} {xs ys:Array Value} {Q:Value->Shared->Prop} (g1:s.heap.IsTuple l1 xs) (g2:s.heap.IsTuple l2 ys)
  (hQ:∀ h',IsZip h' (s.heap.objs.size + 4) (s.heap.objs.size + 2) (s.heap.objs.size + 3) .none->IsPair h' (s.heap.objs.size + 2) (.ref s.heap.objs.size) (.ref (s.heap.objs.size + 1))->IsPair h' (s.heap.objs.size + 3) .none .none ->
   h'.IsTupleIter s.heap.objs.size l1 0->h'.IsTupleIter (s.heap.objs.size + 1) l2 0->(∀ c o,s.heap.get? c = some o->h'.get? c = some o)->Q (.ref (s.heap.objs.size + 4)) { s with heap:=h' }) :
  wpAny (model prog w) A (call (.type "zip") [.ref l1,.ref l2]) Q E s:=by
 refine callType_new (S:=fun A R s'=>s' = s/\∀ h',IsZip h' (s.heap.objs.size + 4) (s.heap.objs.size + 2) (s.heap.objs.size + 3) .none->IsPair h' (s.heap.objs.size + 2) (.ref s.heap.objs.size) (.ref (s.heap.objs.size + 1))->IsPair h' (s.heap.objs.size + 3) .none .none ->
   h'.IsTupleIter s.heap.objs.size l1 0->h'.IsTupleIter (s.heap.objs.size + 1) l2 0->(∀ c o,s.heap.get? c = some o->h'.get? c = some o)->R (.ok (.ret (.ref (s.heap.objs.size + 4)))) { s with heap:=h' }) F.called_zip rfl (F.typeCall_zip_2 _ _) (F.newCall_zip_2 _ _) (fun _=>F.args_object_init_3 _ _ _) F.entry_zip_new (.of_wp fun prog w A R s' hR=>?_) ⟨rfl,fun h' z1 z2 z3 z4 z5 k=>⟨⟨_,z1,rfl⟩,hQ h' z1 z2 z3 z4 z5 k⟩⟩
 obtain ⟨rfl,hR⟩:=hR
 obtain ⟨h0,gg,dd,tt,oo⟩:=s'
 refine wpAny_bind (wpAny_bind (wpAny_pure (wpAny_ite_false rfl (wpAny_bind (wpAny_of_eq sub_zip (wpAny_ite_false rfl (wpAny_pure ?_)))))))
 let h1:=h0.push { cls:=.type "tuple_iterator",data:=.fields #[.ref l1,.int 0 0] }
 let h2:=h1.push { cls:=.type "tuple_iterator",data:=.fields #[.ref l2,.int 0 0] }
 let h3:=h2.push { cls:=.type "tuple",data:=.seq #[.ref h0.objs.size,.ref h1.objs.size] }
 let h4:=h3.push { cls:=.type "tuple",data:=.seq #[.none,.none] }
 have e1:h1.objs.size = h0.objs.size + 1:=Heap.size_push ..
 have e2:h2.objs.size = h0.objs.size + 2:=(Heap.size_push ..).trans (congrArg (· + 1) e1)
 have e3:h3.objs.size = h0.objs.size + 3:=(Heap.size_push ..).trans (congrArg (· + 1) e2)
 have e4:h4.objs.size = h0.objs.size + 4:=(Heap.size_push ..).trans (congrArg (· + 1) e3)
 have g2':h1.IsTuple l2 ys:=g2.at fun o e=>Heap.get?_push_of_some _ e
 have p0:h1.get? h0.objs.size = some { cls:=.type "tuple_iterator",data:=.fields #[.ref l1,.int 0 0] }:=Heap.get?_push_size _ rfl
 have p1:h2.get? h1.objs.size = some { cls:=.type "tuple_iterator",data:=.fields #[.ref l2,.int 0 0] }:=Heap.get?_push_size _ rfl
 have p2:h3.get? h2.objs.size = some { cls:=.type "tuple",data:=.seq #[.ref h0.objs.size,.ref h1.objs.size] }:=Heap.get?_push_size _ rfl
 have p3:h4.get? h3.objs.size = some { cls:=.type "tuple",data:=.seq #[.none,.none] }:=Heap.get?_push_size _ rfl
 have u:∀ {h:Heap} {o:Obj} {c:Addr} {q:Obj},h.get? c = some q->(h.push o).get? c = some q:=fun e=>Heap.get?_push_of_some _ e
 refine wpAny_ite_false rfl (wpAny_bind (wpAny_bind (Ob (u:=#[.ref h0.objs.size]) (v:=#[.ref h0.objs.size,.ref h1.objs.size]) (wpAny_bind (wpAny_holding (wpAny_pyIter_tuple g1 (wpAny_pure ⟨rfl,wpAny_bind (wpAny_holding (wpAny_pyIter_tuple g2' (wpAny_pure ⟨rfl,wpAny_pure ?_⟩)))⟩)))))))
 refine wpAny_bind (wpAny_newTuple (wpAny_bind (wpAny_newTuple (wpAny_bind (l7 (wpAny_pure ⟨_,rfl,?_⟩) ?_)) (by show 2<=sizeLine; decide))) (by show 2<=sizeLine; decide))
 ·have hz:=Heap.get?_push_size h4 (o:={ cls:=.type "zip",data:=.fields #[.none,.bool false,.bool false,.ref h2.objs.size,.ref h3.objs.size] }) rfl
  have q:=hR (h4.push { cls:=.type "zip",data:=.fields #[.none,.bool false,.bool false,.ref h2.objs.size,.ref h3.objs.size] })
  rw [show (Shared.mk h0 gg dd tt oo).heap.objs.size = h0.objs.size from rfl,<-e1,<-e2,<-e3,<-e4] at q
  exact q hz (u (u p2)) (u p3) ⟨_,u (u (u (u p0))),rfl,rfl⟩ ⟨_,u (u (u p1)),rfl,rfl⟩ fun c o e=>u (u (u (u (u e))))
 ·show 5<=sizeLine + 2
  decide
end
end L2
namespace L2
open PySem PySem.Spec PyProof.Rows
noncomputable def Wr (sq:Hp->Addr->List V->Prop) (a b:Addr):It :=
  ⟨fun i H=>∃ xs ys x y,sq H a xs/\sq H b ys/\xs.length<=ys.length/\xs[i]? = some x/\ys[i]? = some y,fun i H v H'=>∃ T x y,v = .ref T/\H T = none/\H' = upd H T (.tup [x,y])/\(∀ xs,sq H a xs->xs[i]? = some x)/\∀ ys,sq H b ys->ys[i]? = some y,
   fun i H=>∃ xs ys,sq H a xs/\sq H b ys/\xs.length<=ys.length/\xs.length = i⟩
noncomputable def Nx (isIt:Heap->Addr->Addr->Nat->Prop) (z TI TO i1 i2 a b:Addr) (i:Nat) (h:Heap):Prop:=IsZip h z TI TO .none/\IsPair h TI (.ref i1) (.ref i2)/\(∃ u v,IsPair h TO u v)/\isIt h i1 a i/\isIt h i2 b i
section
variable {P:Program} {w:World} {K:PySem.W.Frag} {elts:List Expr} {kk:Nat} {tp:Pos} {isIt:Heap->Addr->Addr->Nat->Prop} {isq:Heap->Addr->Array Value->Prop} {sq:Hp->Addr->List V->Prop}
theorem Fi (oI:∀ h c l i,isIt h c l i->∃ o,h.get? c = some o/\∀ v,o.data ≠ .cell v) (kI:∀ h h' c l i,isIt h c l i->(∀ o,h.get? c = some o->h'.get? c = some o)->isIt h' c l i)
  (gI:∀ (X:Cx) pins σ H s c xs,X.K = K->Inv X pins σ H s->sq H c xs->∃ its,Vals xs its/\isq s.heap c its.toArray) (uI:∀ (X:Cx) pins σ H s c xs ys,X.K = K->Inv X pins σ H s->sq H c xs->sq H c ys->xs = ys)
  (z TI TO i1 i2 a b:Addr) (WI:∀ (A:Around),A.handled = none->∀ xs ys:Array Value,xs.size<=ys.size->WalksT P w A z [z,TI,TO,i1,i2,a,b] [z,TO,i1,i2] xs.size (fun i vals=>∃ x y,xs[i]? = some x/\ys[i]? = some y/\vals = #[x,y])
   (fun i h=>IsZip h z TI TO .none/\IsPair h TI (.ref i1) (.ref i2)/\(∃ a b,IsPair h TO a b)/\isIt h i1 a i/\isIt h i2 b i/\isq h a xs/\isq h b ys)
   (fun i T h=>IsZip h z TI TO (rawInt T)/\IsPair h TI (.ref i1) (.ref i2)/\(∃ a b,IsPair h TO a b)/\isIt h i1 a (i + 1)/\isIt h i2 b (i + 1)/\isq h a xs/\isq h b ys/\T ≠ z/\T ≠ TO/\T ≠ i1/\T ≠ i2)) :
  Turn P w K (.Tuple elts kk tp) (Wr sq a b) [z,TI,TO,i1,i2] z (Nx isIt z TI TO i1 i2 a b) where
 mem:=List.mem_cons_self ..
 obj:=fun i h st c hc=>by
  obtain ⟨h1,h2,⟨u,v,h3⟩,h4,h5⟩:=st
  simp only [List.mem_cons,List.not_mem_nil,or_false] at hc
  rcases hc with rfl | rfl | rfl | rfl | rfl
  ·exact ⟨_,h1,fun v z=>by cases z⟩
  ·exact ⟨_,h2,fun v z=>by cases z⟩
  ·exact ⟨_,h3,fun v z=>by cases z⟩
  ·exact oI _ _ _ _ h4
  ·exact oI _ _ _ _ h5
 keep:=fun i h h' st k=>by
  obtain ⟨h1,h2,⟨u,v,h3⟩,h4,h5⟩:=st
  exact ⟨k z (by simp) _ h1,k TI (by simp) _ h2,⟨u,v,k TO (by simp) _ h3⟩,kI _ _ _ _ _ h4 (k i1 (by simp)),kI _ _ _ _ _ h5 (k i2 (by simp))⟩
 item:=by
  intro X hP hw hK hc i pins s σ H E I hf st hg
  subst hP hw
  obtain ⟨xs,ys,x,y,hq,hr,hle,hx,hy⟩:=hg
  obtain ⟨its,rv,p⟩:=gI _ _ _ _ _ _ _ hK I hq
  obtain ⟨jts,rw_,p'⟩:=gI _ _ _ _ _ _ _ hK I hr
  obtain ⟨u,hu,ru⟩:=rv.get hx
  obtain ⟨v,hv,rv'⟩:=rw_.get hy
  have hl:=rv.length
  have hl':=rw_.length
  have W:=WI X.A (I.ok.hd hc) its.toArray jts.toArray (by rw [List.size_toArray,List.size_toArray,<-hl,<-hl']; exact hle)
  have hi:i < its.toArray.size:=by rw [List.size_toArray]; exact (List.getElem?_eq_some_iff.mp hu).1
  obtain ⟨s1,s2,s3,s4,s5⟩:=id st
  refine W.item i s _ _ hi ⟨s1,s2,s3,s4,s5,p,p'⟩ fun T vals h' tk hvs hT ht hm k=>?_
  obtain ⟨x',y',hx',hy',rfl⟩:=hvs
  have ex:x' = u:=Option.some.inj (hx'.symm.trans ((List.getElem?_toArray ..).trans hu))
  have ey:y' = v:=Option.some.inj (hy'.symm.trans ((List.getElem?_toArray ..).trans hv))
  subst ex ey
  refine ⟨.ref T,rfl,W.go elts kk tp i T _ _ _ hm fun h2 st2 k2=>?_⟩
  have kk2:∀ b o,b ∉ [z,TI,TO,i1,i2]->s.heap.get? b = some o->h2.get? b = some o:=fun c o hc' ec=>by
   have n4:c ∉ [z,TO,i1,i2]:=fun m=>hc' (by
    simp only [List.mem_cons,List.not_mem_nil,or_false] at m ⊢
    exact m.imp_right .inr)
   exact k2 c o n4 (k c o n4 ec)
  have hT2:h2.IsTuple T #[x',y']:=ht.at fun o e=>k2 T o (W.apart i T h' hm) e
  have gone:∀ c ∈ [z,TI,TO,i1,i2],∃ ob,s.heap.get? c = some ob:=fun c hc'=>by
   obtain ⟨u3,v3,h3⟩:=s3
   obtain ⟨o4,h4,_⟩:=oI _ _ _ _ s4
   obtain ⟨o5,h5,_⟩:=oI _ _ _ _ s5
   simp only [List.mem_cons,List.not_mem_nil,or_false] at hc'
   rcases hc' with rfl | rfl | rfl | rfl | rfl
   ·exact ⟨_,s1⟩
   ·exact ⟨_,s2⟩
   ·exact ⟨_,h3⟩
   ·exact ⟨_,h4⟩
   ·exact ⟨_,h5⟩
  refine ⟨.ref T,upd H T (.tup [x,y]),I.turnLaid (fp:=[z,TI,TO,i1,i2]) kk2 hf gone hT ⟨?_,[x',y'],.cons ru (.cons rv' .nil),hT2⟩,rfl,⟨T,x,y,rfl,I.hok.fresh hT,rfl,fun zs hz=>by rw [uI _ _ _ _ _ _ _ _ hK I hz hq]; exact hx,fun zs hz=>by rw [uI _ _ _ _ _ _ _ _ hK I hz hr]; exact hy⟩,⟨st2.1,st2.2.1,st2.2.2.1,st2.2.2.2.1,st2.2.2.2.2.1⟩,fun c hc'=>?_⟩
  ·show 2<=sizeLine
   decide
  ·obtain ⟨ob,eb⟩:=gone c hc'
   rw [B2 (Nat.ne_of_lt (Nat.lt_of_lt_of_le (Heap.lt_size eb) hT))]
   exact (hf c hc').1
 done:=by
  intro X hP hw hK hc i pins s σ H E I hf st hg
  subst hP hw
  obtain ⟨xs,ys,hq,hr,hle,hx⟩:=hg
  obtain ⟨its,rv,p⟩:=gI _ _ _ _ _ _ _ hK I hq
  obtain ⟨jts,rw_,p'⟩:=gI _ _ _ _ _ _ _ hK I hr
  have hl:=rv.length
  have hl':=rw_.length
  have W:=WI X.A (I.ok.hd hc) its.toArray jts.toArray (by rw [List.size_toArray,List.size_toArray,<-hl,<-hl']; exact hle)
  have hi:i = its.toArray.size:=by rw [List.size_toArray,<-hl,hx]
  obtain ⟨s1,s2,s3,s4,s5⟩:=id st
  rw [hi] at s4 s5
  refine W.done s _ _ ⟨s1,s2,s3,s4,s5,p,p'⟩ fun h' tk k=>⟨rfl,?_⟩
  have nf:∀ b u,H b = some u->b ∉ [z,TI,TO,i1,i2]:=fun b u e hb=>by rw [(hf b hb).1] at e; cases e
  have k':∀ c o,c ∉ [z,TI,TO,i1,i2]->s.heap.get? c = some o->h'.get? c = some o:=fun c o hc' ec=>k c o (fun m=>hc' (by
    simp only [List.mem_cons,List.not_mem_nil,or_false] at m ⊢
    exact m.imp_right .inr)) ec
  refine I.step (h':=h') (H':=H) (t':=tk) (g':=s.gens) (d':=s.drawn) (ch:=[z,TI,TO,i1,i2]) (fun b hb=>let ⟨_,f1,_,f3,f4,f5⟩:=hf b hb; ⟨f3,f1,f4,f5⟩) (fun b ob _ _ hc e _=>k' b ob hc e) (fun b ob _ _ hc e _=>⟨ob.slots,k' b ob hc e⟩) (fun _ _ _ _ n=>n)
   (fun b ob hc e=>⟨ob,k' b ob hc e⟩) (fun _ _ e=>e) (fun _ _ _ e=>e) (fun b ps e=>⟨#[],by rw [e]; simp⟩) (fun m hm=>?_) (fun b u eb=>?_) I.bare
  ·obtain ⟨ob,es,ep,ho,r⟩:=hm
   exact ⟨ob,es,ep,k' _ ob (fun hb=>(hf _ hb).2.1 rfl) ho,r⟩
  ·refine (I.hok b u eb).stay (fun c v hc q=>k' c v ?_ q) (fun _ q=>q) fun _ _ q=>q
   rcases hc with z | z
   ·rw [z]; exact nf b u eb
   ·exact nf c _ z
 self:=fun A i s Q E st h=>wpAny_pyIter_zip st.1 h
theorem Ot (z TI TO i1 i2 a b:Addr) (D:ZipApart z TI TO i1 i2 a b):Turn P w K (.Tuple elts kk tp) (Wr (SqL K) a b) [z,TI,TO,i1,i2] z (Nx Heap.IsListIter z TI TO i1 i2 a b) :=
 Fi (isq:=Heap.IsList) (fun h c l i ⟨o,e,_,d⟩=>⟨o,e,fun v z=>by rw [d] at z; cases z⟩) (fun h h' c l i z k=>z.at k) (fun X pins σ H s c xs hK I hq=>by subst hK; obtain ⟨its,rv,p,_⟩:=I.list hq; exact ⟨its,rv,p.isList⟩) (fun X pins σ H s c xs ys hK I hq hr=>by subst hK; exact I.list_inj hq hr)
  z TI TO i1 i2 a b fun A hA xs ys hl=>by
   have W:=WalksT.zip2 (prog:=P) (w:=w) hA z TI TO i1 i2 a b D xs ys
   rwa [Nat.min_eq_left hl] at W
theorem Pd (z TI TO i1 i2 a b:Addr) (D:ZipApart z TI TO i1 i2 a b):Turn P w K (.Tuple elts kk tp) (Wr (SqT K) a b) [z,TI,TO,i1,i2] z (Nx Heap.IsTupleIter z TI TO i1 i2 a b) :=
 Fi (isq:=Heap.IsTuple) (fun h c l i ⟨o,e,_,d⟩=>⟨o,e,fun v z=>by rw [d] at z; cases z⟩) (fun h h' c l i z k=>z.at k) (fun X pins σ H s c xs hK I hq=>by subst hK; obtain ⟨its,rv,p,_⟩:=I.tuple hq; exact ⟨its,rv,p⟩) (fun X pins σ H s c xs ys hK I hq hr=>by subst hK; exact I.tuple_inj hq hr)
  z TI TO i1 i2 a b fun A hA xs ys hl=>Um hA z TI TO i1 i2 a b D xs ys hl
end
section
variable {X:Cx} {elts:List Expr} {kk:Nat} {tp:Pos}
noncomputable def zBm (K:PySem.W.Frag) (R:It->Hp->Prop) (a b:Addr) (xs ys:List V) (H:Hp):Prop:=SqL K H a xs/\SqL K H b ys/\R (Wr (SqL K) a b) H\/SqT K H a xs/\SqT K H b ys/\R (Wr (SqT K) a b) H
noncomputable def Yq (K:PySem.W.Frag) (ta:TA):TI:=fun σ H R=>ta σ H fun vs H1=>∃ a b xs ys,vs = [.ref a,.ref b]/\zBm K R a b xs ys H1
theorem Vd:bootBuiltins "zip" = some (.type "zip"):=by decide +kernel
theorem Vh {a b:Expr} {ta:TA} {p pos:Pos} (hg:Gl X "zip") (hm:X.mg "zip" = none) (ha:PA X [a,b] ta) (hs:starEach [a,b] X.env = (false,eval a X.env) :: starEach [b] X.env:=by rfl) (hpl:(backTo pos (starEach [b] X.env)).any (·.1) = false:=by rfl):PI X (.Tuple elts kk tp) (.Call (.Name "zip" p) [a,b] [] pos) (Yq X.K ta):=by
 intro pins s σ H R I h
 refine Call_ (t9 I hg hm Vd (PyProof.Rows.callWith_type1 (thn (ha pos pins s σ H _ I h) fun us s1 ⟨vs,H1,I1,r1,q1⟩=>?_) hs hpl))
 obtain ⟨l,m,xs,ys,e,q⟩:=q1
 subst e
 obtain ⟨u,v,rfl,ru,rv⟩:=r1.two
 cases ru
 cases rv
 have fpk:∀ c ∈ [s1.heap.objs.size + 4,s1.heap.objs.size + 2,s1.heap.objs.size + 3,s1.heap.objs.size,s1.heap.objs.size + 1],Bh X pins H1 c:=fun c hc=>by
  have hc':s1.heap.objs.size<=c:=by
   simp only [List.mem_cons,List.not_mem_nil,or_false] at hc
   rcases hc with rfl | rfl | rfl | rfl | rfl
   ·exact Nat.le_add_right ..
   ·exact Nat.le_add_right ..
   ·exact Nat.le_add_right ..
   ·exact Nat.le_refl _
   ·exact Nat.le_add_right ..
  exact I1.fpOk hc' (I1.hok.fresh hc')
 rcases q with ⟨hq,hr,q⟩ | ⟨hq,hr,q⟩
 ·obtain ⟨its,rx,pl,hz⟩:=I1.list hq
  obtain ⟨jts,ry,pm,hz'⟩:=I1.list hr
  have a1:l < s1.heap.objs.size:=by obtain ⟨_,e,_⟩:=pl.isList; exact Heap.lt_size e
  have a2:m < s1.heap.objs.size:=by obtain ⟨_,e,_⟩:=pm.isList; exact Heap.lt_size e
  refine call_zip_2 pl.isList pm.isList fun h' g1 g2 g3 g4 g5 hsz k=>wpAny_pyIter_zip g1 ?_
  exact ⟨s1.heap.objs.size + 4,_,_,_,H1,rfl,I1.kept (t':=s1.toks) k,Ot _ _ _ _ _ l m (zipApart_new a1 a2),⟨g1,g2,⟨_,_,g3⟩,g4,g5⟩,fpk,q⟩
 ·obtain ⟨its,rx,pl,hz⟩:=I1.tuple hq
  obtain ⟨jts,ry,pm,hz'⟩:=I1.tuple hr
  have a1:l < s1.heap.objs.size:=by obtain ⟨_,e,_⟩:=id pl; exact Heap.lt_size e
  have a2:m < s1.heap.objs.size:=by obtain ⟨_,e,_⟩:=id pm; exact Heap.lt_size e
  refine Ms pl pm fun h' g1 g2 g3 g4 g5 k=>wpAny_pyIter_zip g1 ?_
  exact ⟨s1.heap.objs.size + 4,_,_,_,H1,rfl,I1.kept (t':=s1.toks) k,Pd _ _ _ _ _ l m (zipApart_new a1 a2),⟨g1,g2,⟨_,_,g3⟩,g4,g5⟩,fpk,q⟩
variable (K:PySem.W.Frag)
theorem zDb {a b:Expr} {ta:TA} {p pos:Pos} (hm:X.mg "zip" = none) (ha:PA X [a,b] ta) (hg:Gl X "zip":=by rfl) (hs:starEach [a,b] X.env = (false,eval a X.env) :: starEach [b] X.env:=by rfl) (hpl:(backTo pos (starEach [b] X.env)).any (·.1) = false:=by rfl) (hK:X.K = K:=by rfl):PI X (.Tuple elts kk tp) (.Call (.Name "zip" p) [a,b] [] pos) (Yq K ta):=by subst hK; exact Vh hg hm ha hs hpl
end
end L2
namespace L2
open PySem PySem.Spec PyProof.Rows
section
variable {prog:Program} {w:World} {A:Around} {E:Value->Shared->Prop} {s:Shared} {e it l:Addr} {i:Nat} {items:Array Value} {x old:Value} {Q:Value->Shared->Prop}
theorem y6 (he:IsEnum s.heap e it (i:Int) old) (h1:s.heap.IsTupleIter it l i) (g1:s.heap.IsTuple l items) (hx:items[i]? = some x) (hei:e ≠ it)
  (hQ:∀ h',IsEnumOut h' e it ((i:Int) + 1) x s.heap.objs.size->h'.IsTupleIter it l (i + 1)->h'.get? s.heap.objs.size = some { cls:=.type "tuple",data:=.seq #[.int (i:Int) s.toks,x] }->(∀ b o,b ≠ e->b ≠ it->s.heap.get? b = some o->h'.get? b = some o)->Q (.ref s.heap.objs.size) { s with heap:=h',toks:=s.toks + 1 }) :
  wpAny (model prog w) A (Builtin.«enumerate.__next__» ⟨[.ref e],[]⟩) (fun fin s'=>∃ v,fin = .done (.ret v)/\Q v s') E s:=by
 obtain ⟨h0,gg,dd,tt,oo⟩:=s
 refine wpAny_bind (wpAny_pure (wpAny_bind (wpAny_field he rfl rfl (wpAny_bind (O5 h1 g1 hx fun h2 a2 s2=>?_)))))
 have e2:=(s2.2 e hei).trans he
 refine wpAny_bind (wpAny_field e2 rfl rfl (wpAny_bind (wpAny_field e2 rfl rfl (wpAny_ite_true rfl ?_))))
 refine wpAny_bind (wpAny_mkInt (wpAny_bind (wpAny_setField_rec e2 (Nat.le_of_ble_eq_true rfl) fun h3 e3 s3=>wpAny_bind (wpAny_setField_rec e3 (Nat.le_of_ble_eq_true rfl) fun h4 e4 s4=>?_))))
 have hs:h4.objs.size = h0.objs.size:=s4.1.trans (s3.1.trans s2.1)
 have n0:∀ {c:Addr} {o:Obj},h0.get? c = some o->c ≠ h4.objs.size:=fun e=>by rw [hs]; exact Nat.ne_of_lt (Heap.lt_size e)
 refine wpAny_bind (wpAny_newTuple ?_ (by show 2<=sizeLine; decide))
 have e5:=Heap.get?_push_of_some { cls:=.type "tuple",data:=.seq [.int (i:Int) tt,x].toArray } e4
 refine wpAny_bind (wpAny_bind (wpAny_field e5 rfl rfl (wpAny_pure (wpAny_ite_true rfl ?_))))
 refine wpAny_bind (wpAny_rule (wpAny_bind (wpAny_field e5 rfl rfl (wpAny_bind (wpAny_setField_rec e5 (Nat.le_of_ble_eq_true rfl) fun h6 e6 s6=>?_)))))
 refine wpAny_bind (wpAny_bind (wpAny_setField_rec e6 (Nat.le_of_ble_eq_true rfl) fun h7 e7 s7=>wpAny_setField_rec e7 (Nat.le_of_ble_eq_true rfl) fun h8 e8 s8=>wpAny_bind (wpAny_letGo (wpAny_pure ⟨_,rfl,?_⟩))))
 have k8:∀ {c:Addr} {o:Obj},c ≠ e->h4.get? c = some o->h8.get? c = some o:=fun nz z=>(s8.2 _ nz).trans ((s7.2 _ nz).trans ((s6.2 _ nz).trans (Heap.get?_push_of_some _ z)))
 have k4:∀ {c:Addr} {o:Obj},c ≠ e->h2.get? c = some o->h8.get? c = some o:=fun nz z=>k8 nz ((s4.2 _ nz).trans ((s3.2 _ nz).trans z))
 have tk:h8.get? h4.objs.size = some { cls:=.type "tuple",data:=.seq #[.int (i:Int) tt,x] }:=(s8.2 _ (n0 he).symm).trans ((s7.2 _ (n0 he).symm).trans ((s6.2 _ (n0 he).symm).trans (Heap.get?_push_size _ rfl)))
 rw [hs] at e8 tk ⊢
 exact hQ h8 e8 (a2.at fun o z=>k4 hei.symm z) tk fun b o nb ni z=>k4 nb ((s2.2 _ ni).trans z)
theorem Bd {Q:PySem.Fin->Shared->Prop} (hA:A.handled = none) (he:IsEnum s.heap e it (i:Int) old) (h1:s.heap.IsTupleIter it l i) (g1:s.heap.IsTuple l items) (hx:items[i]? = none)
  (hE:∀ h' z,Heap.ExtBut it s.heap h'->(∃ o,h'.get? z = some o/\o.cls = .type "StopIteration")->E (.ref z) { s with heap:=h' }) :
  wpAny (model prog w) A (Builtin.«enumerate.__next__» ⟨[.ref e],[]⟩) Q E s :=
 wpAny_bind (wpAny_pure (wpAny_bind (wpAny_field he rfl rfl (wpAny_bind (U2 hA h1 g1 hx hE)))))
theorem Dt (he:IsEnum s.heap e it (i:Int) old):s.TypeIs (.ref e) "enumerate":=⟨_,he,rfl⟩
theorem Vj (hA:A.handled = none) (e it l:Addr) (hei:e ≠ it) (hle:l ≠ e) (hli:l ≠ it) (items:Array Value) :
  WalksT prog w A e [e,it,l] [e,it] items.size (fun i vals=>∃ t x,items[i]? = some x/\vals = #[.int (i:Int) t,x])
   (fun i h=>(∃ old,IsEnum h e it (i:Int) old)/\h.IsTupleIter it l i/\h.IsTuple l items)
   (fun i T h=>(∃ x,IsEnumOut h e it ((i:Int) + 1) x T)/\h.IsTupleIter it l (i + 1)/\h.IsTuple l items/\T ≠ e/\T ≠ it) where
 sub:=by simp
 frame:=fun i h h' ⟨⟨old,h1⟩,h2,h3⟩ k=>⟨⟨old,k e (by simp) _ h1⟩,h2.at (k it (by simp)),h3.at (k l (by simp))⟩
 item:=fun i s Q E hi ⟨⟨old,h1⟩,h2,h3⟩ hQ=>by
  have hx:items[i]? = some items[i]:=Array.getElem?_eq_getElem hi
  refine wpAny_bind (wpAny_attempt (wpAny_callSpecial?_slot (Dt h1) F.slot_enumerate_next (wpAny_call_entry F.slot_enumerate_next (Dt h1) F.entry_enumerate_next (y6 h1 h2 h3 hx hei fun h' z' a' t' k=>wpAny_pure ?_) (F.args_enumerate_next_1 _))))
  refine hQ _ _ h' (s.toks + 1) ⟨_,_,hx,rfl⟩ (Nat.le_refl _) ⟨_,t',rfl,_,rfl⟩ ⟨⟨_,z'⟩,a',h3.at fun o z=>k l o hle hli z,?_,?_⟩ fun b o hb z=>?_
  ·exact (Nat.ne_of_lt (Heap.lt_size h1)).symm
  ·obtain ⟨o,z,_⟩:=h2
   exact (Nat.ne_of_lt (Heap.lt_size z)).symm
  ·simp only [List.mem_cons,List.not_mem_nil,or_false,not_or] at hb
   exact k b o hb.1 hb.2 z
 go:=fun elts k pos i T s Q E ⟨⟨x,h1⟩,h2,h3,_⟩ hQ=>wpAny_letOwnedTupleGo_enum h1 fun h' z' k'=>hQ h' ⟨⟨_,z'⟩,h2.extBut k'.extBut hei.symm,h3.extBut k'.extBut hle⟩ fun b o hb z=>(k'.2 b fun q=>hb (by rw [q]; exact List.mem_cons_self ..)).trans z
 apart:=fun i T h ⟨_,_,_,n1,n2⟩ hm=>by
  simp only [List.mem_cons,List.not_mem_nil,or_false] at hm
  rcases hm with z | z
  ·exact n1 z
  ·exact n2 z
 done:=fun s Q E ⟨⟨old,h1⟩,h2,h3⟩ hQ=>by
  have hx:items[items.size]? = none:=Array.getElem?_eq_none (Nat.le_refl _)
  refine wpAny_bind (wpAny_attempt (wpAny_callSpecial?_slot (Dt h1) F.slot_enumerate_next (wpAny_call_entry F.slot_enumerate_next (Dt h1) F.entry_enumerate_next (Bd hA h1 h2 h3 hx fun h' z k ho=>?_) (F.args_enumerate_next_1 _))))
  obtain ⟨o,ho,hc⟩:=ho
  refine wpAny_bind (wpAny_isInstance ⟨o,ho,hc⟩ isSubtype_stop (wpAny_pure (hQ h' s.toks fun b o hb z=>?_)))
  simp only [List.mem_cons,List.not_mem_nil,or_false,not_or] at hb
  exact k b o hb.2 z
 self:=fun i s Q E ⟨⟨_,h1⟩,_⟩ q=>wpAny_pyIter_enum h1 q
theorem Zc {M:Model} {α:Type} {c:Prop} [Decidable c] {a b:Sem α} {Q:α->Shared->Prop} (h1:wpAny M A a Q E s) (h2:wpAny M A b Q E s):wpAny M A (if c then a else b) Q E s:=by
 by_cases h:c
 ·rw [if_pos h]; exact h1
 ·rw [if_neg h]; exact h2
theorem Ko (g1:s.heap.IsTuple l items)
  (hQ:∀ h',IsEnum h' (s.heap.objs.size + 1) s.heap.objs.size 0 .none->h'.IsTupleIter s.heap.objs.size l 0->(∀ b o,s.heap.get? b = some o->h'.get? b = some o)->Q (.ref (s.heap.objs.size + 1)) { s with heap:=h' }) :
  wpAny (model prog w) A (call (.type "enumerate") [.ref l]) Q E s:=by
 refine callType_new (S:=fun A R s'=>s' = s/\∀ h',IsEnum h' (s.heap.objs.size + 1) s.heap.objs.size 0 .none->h'.IsTupleIter s.heap.objs.size l 0->(∀ b o,s.heap.get? b = some o->h'.get? b = some o)->R (.ok (.ret (.ref (s.heap.objs.size + 1)))) { s with heap:=h' })
  F.called_enumerate rfl (F.typeCall_enumerate_1 _) (F.newCall_enumerate_1 _) (fun _=>F.args_object_init_2 _ _) F.entry_enumerate_new (.of_wp fun prog w A R s' hR=>?_) ⟨rfl,fun h' z1 z2 k=>⟨⟨_,z1,rfl⟩,hQ h' z1 z2 k⟩⟩
 obtain ⟨rfl,hR⟩:=hR
 obtain ⟨h0,gg,dd,tt,oo⟩:=s'
 have e1:(h0.push { cls:=.type "tuple_iterator",data:=.fields #[.ref l,.int 0 0] }).objs.size = h0.objs.size + 1:=Heap.size_push ..
 refine wpAny_bind (wpAny_bind (wpAny_pure (wpAny_ite_false rfl (wpAny_bind (wpAny_of_eq sub_enumerate (wpAny_ite_false rfl (wpAny_pure ?_)))))))
 refine wpAny_ite_true rfl (wpAny_bind (wpAny_bind (wpAny_stack_any fun st=>wpAny_pure ?_)))
 have fin:wpAny (model prog w) A.in1 (pyIter (.ref l) >>= fun v=>Builtin.SmallTypes.newRecord (.type "enumerate") (Builtin.SmallTypes.ownedTupleFields ++ [v,rawInt 0,.none,.none]) >>= fun r=>ret r) (fun fin s'=>∃ v,fin = .done (.ret v)/\R (.ok (.ret v)) s') (fun e s'=>R (.error e) s') ⟨h0,gg,dd,tt,oo⟩:=by
  refine wpAny_bind (wpAny_pyIter_tuple g1 (wpAny_bind (l7 (wpAny_pure ⟨_,rfl,?_⟩) (by show 6<=sizeLine + 2; decide))))
  have he:=Heap.get?_push_size (h0.push { cls:=.type "tuple_iterator",data:=.fields #[.ref l,.int 0 0] }) (o:={ cls:=.type "enumerate",data:=.fields #[.none,.bool false,.ref h0.objs.size,rawInt 0,.none,.none] }) rfl
  have q:=hR ((h0.push { cls:=.type "tuple_iterator",data:=.fields #[.ref l,.int 0 0] }).push { cls:=.type "enumerate",data:=.fields #[.none,.bool false,.ref h0.objs.size,rawInt 0,.none,.none] })
  rw [show (Shared.mk h0 gg dd tt oo).heap.objs.size = h0.objs.size from rfl,<-e1] at q
  exact q he ⟨_,Heap.get?_push_of_some _ (Heap.get?_push_size _ rfl),rfl,rfl⟩ fun b o z=>Heap.get?_push_of_some _ (Heap.get?_push_of_some _ z)
 exact Zc (wpAny_bind (wpAny_of_eq (a:=(Value.ref l,none)) rfl fin)) (wpAny_bind (wpAny_of_eq (a:=(Value.ref l,none)) rfl fin))
end
end L2
namespace L2
open PySem PySem.Spec PyProof.Rows
noncomputable def Wn (sq:Hp->Addr->List V->Prop) (a:Addr):It :=
 ⟨fun i H=>∃ xs x,sq H a xs/\xs[i]? = some x,fun i H v H'=>∃ T x,v = .ref T/\H T = none/\H' = upd H T (.tup [.int i,x])/\∀ xs,sq H a xs->xs[i]? = some x,fun i H=>∃ xs,sq H a xs/\xs.length = i⟩
section
variable {P:Program} {w:World} {K:PySem.W.Frag} {elts:List Expr} {kk:Nat} {tp:Pos} {isIt:Heap->Addr->Addr->Nat->Prop} {isq:Heap->Addr->Array Value->Prop} {sq:Hp->Addr->List V->Prop}
theorem Ch (oI:∀ h c l i,isIt h c l i->∃ o,h.get? c = some o/\∀ v,o.data ≠ .cell v) (kI:∀ h h' c l i,isIt h c l i->(∀ o,h.get? c = some o->h'.get? c = some o)->isIt h' c l i)
  (gI:∀ (X:Cx) pins σ H s c xs,X.K = K->Inv X pins σ H s->sq H c xs->∃ its,Vals xs its/\isq s.heap c its.toArray) (uI:∀ (X:Cx) pins σ H s c xs ys,X.K = K->Inv X pins σ H s->sq H c xs->sq H c ys->xs = ys)
  (nE:∀ h c e it i old its,IsEnum h e it i old->isq h c its->c ≠ e) (nI:∀ h c l i its e,isIt h e l i->isq h c its->c ≠ e)
  (a it e:Addr) (hei:e ≠ it) (WI:∀ (A:Around),A.handled = none->a ≠ e->a ≠ it->∀ items:Array Value,WalksT P w A e [e,it,a] [e,it] items.size (fun i vals=>∃ t x,items[i]? = some x/\vals = #[.int (i:Int) t,x])
   (fun i h=>(∃ old,IsEnum h e it (i:Int) old)/\isIt h it a i/\isq h a items)
   (fun i T h=>(∃ x,IsEnumOut h e it ((i:Int) + 1) x T)/\isIt h it a (i + 1)/\isq h a items/\T ≠ e/\T ≠ it)) :
  Turn P w K (.Tuple elts kk tp) (Wn sq a) [e,it] e (fun i h=>(∃ old,IsEnum h e it (i:Int) old)/\isIt h it a i) where
 mem:=List.mem_cons_self ..
 obj:=fun i h st b hb=>by
  obtain ⟨⟨old,h1⟩,h2⟩:=st
  rcases List.mem_cons.mp hb with rfl | hb
  ·exact ⟨_,h1,fun v z=>by cases z⟩
  ·rw [List.mem_singleton.mp hb]
   exact oI _ _ _ _ h2
 keep:=fun i h h' st k=>⟨let ⟨old,h1⟩:=st.1; ⟨old,k e (by simp) _ h1⟩,kI _ _ _ _ _ st.2 (k it (by simp))⟩
 item:=by
  intro X hP hw hK hc i pins s σ H E I hf st hg
  subst hP hw
  obtain ⟨xs,x,hq,hx⟩:=hg
  obtain ⟨its,rv,p⟩:=gI _ _ _ _ _ _ _ hK I hq
  obtain ⟨u,hu,ru⟩:=rv.get hx
  obtain ⟨⟨old,s1⟩,s2⟩:=id st
  have W:=WI X.A (I.ok.hd hc) (nE _ _ _ _ _ _ _ s1 p) (nI _ _ _ _ _ _ s2 p) its.toArray
  have hi:i < its.toArray.size:=by rw [List.size_toArray]; exact (List.getElem?_eq_some_iff.mp hu).1
  refine W.item i s _ _ hi ⟨st.1,st.2,p⟩ fun T vals h' tk hv hT ht hm k=>?_
  obtain ⟨t,x',hx',rfl⟩:=hv
  have ex:x' = u:=Option.some.inj (hx'.symm.trans ((List.getElem?_toArray ..).trans hu))
  subst ex
  refine ⟨.ref T,rfl,W.go elts kk tp i T _ _ _ hm fun h2 st2 k2=>?_⟩
  have hT2:h2.IsTuple T #[.int i t,x']:=ht.at fun o z=>k2 T o (W.apart i T h' hm) z
  have gone:∀ c ∈ [e,it],∃ ob,s.heap.get? c = some ob:=fun c hc'=>by
   rcases List.mem_cons.mp hc' with rfl | hb
   ·exact ⟨_,s1⟩
   ·rw [List.mem_singleton.mp hb]
    obtain ⟨o,h4,_⟩:=oI _ _ _ _ s2
    exact ⟨o,h4⟩
  refine ⟨.ref T,upd H T (.tup [.int i,x]),I.turnLaid (fp:=[e,it]) (fun b o hb eb=>k2 b o hb (k b o hb eb)) hf gone hT ⟨?_,[.int i t,x'],.cons ⟨t,rfl⟩ (.cons ru .nil),hT2⟩,rfl,⟨T,x,rfl,I.hok.fresh hT,rfl,fun zs hz=>by rw [uI _ _ _ _ _ _ _ _ hK I hz hq]; exact hx⟩,⟨st2.1,st2.2.1⟩,fun c hc'=>?_⟩
  ·show 2<=sizeLine
   decide
  ·obtain ⟨ob,eb⟩:=gone c hc'
   rw [B2 (Nat.ne_of_lt (Nat.lt_of_lt_of_le (Heap.lt_size eb) hT))]
   exact (hf c hc').1
 done:=by
  intro X hP hw hK hc i pins s σ H E I hf st hg
  subst hP hw
  obtain ⟨xs,hq,hx⟩:=hg
  obtain ⟨its,rv,p⟩:=gI _ _ _ _ _ _ _ hK I hq
  obtain ⟨⟨old,s1⟩,s2⟩:=id st
  have W:=WI X.A (I.ok.hd hc) (nE _ _ _ _ _ _ _ s1 p) (nI _ _ _ _ _ _ s2 p) its.toArray
  have hi:i = its.toArray.size:=by rw [List.size_toArray,<-rv.length,hx]
  rw [hi] at st
  refine W.done s _ _ ⟨st.1,st.2,p⟩ fun h' tk k=>⟨rfl,?_⟩
  refine I.step (h':=h') (H':=H) (t':=tk) (g':=s.gens) (d':=s.drawn) (ch:=[e,it]) (fun b hb=>let ⟨_,f1,_,f3,f4,f5⟩:=hf b hb; ⟨f3,f1,f4,f5⟩) (fun b ob _ _ hc e _=>k b ob hc e) (fun b ob _ _ hc e _=>⟨ob.slots,k b ob hc e⟩) (fun _ _ _ _ n=>n)
   (fun b ob hc e=>⟨ob,k b ob hc e⟩) (fun _ _ e=>e) (fun _ _ _ e=>e) (fun b ps e=>⟨#[],by rw [e]; simp⟩) (fun m hm=>?_) (fun b u eb=>?_) I.bare
  ·obtain ⟨ob,es,ep,ho,r⟩:=hm
   exact ⟨ob,es,ep,k _ ob (fun hb=>(hf _ hb).2.1 rfl) ho,r⟩
  ·have nf:∀ b u,H b = some u->b ∉ [e,it]:=fun b u e hb=>by rw [(hf b hb).1] at e; cases e
   refine (I.hok b u eb).stay (fun c v hc q=>k c v ?_ q) (fun _ q=>q) fun _ _ q=>q
   rcases hc with z | z
   ·rw [z]; exact nf b u eb
   ·exact nf c _ z
 self:=fun A i s Q E st h=>let ⟨_,he⟩:=st.1; wpAny_pyIter_enum he h
theorem Kz (a it e:Addr) (hei:e ≠ it):Turn P w K (.Tuple elts kk tp) (Wn (SqL K) a) [e,it] e (fun i h=>(∃ old,IsEnum h e it (i:Int) old)/\h.IsListIter it a i) :=
 Ch (isIt:=Heap.IsListIter) (isq:=Heap.IsList) (fun h c l i ⟨o,e,_,d⟩=>⟨o,e,fun v z=>by rw [d] at z; cases z⟩) (fun h h' c l i z k=>z.at k) (fun X pins σ H s c xs hK I hq=>by subst hK; obtain ⟨its,rv,p,_⟩:=I.list hq; exact ⟨its,rv,p.isList⟩) (fun X pins σ H s c xs ys hK I hq hr=>by subst hK; exact I.list_inj hq hr)
  (fun h c e it i old its he ⟨o,ho,hc,_⟩ z=>by
   rw [z,he] at ho
   cases ho
   exact absurd (show Value.type "enumerate" = .type "list" from hc) (by decide))
  (fun h c l i its e ⟨o',ho',hc',_⟩ ⟨o,ho,hc,_⟩ z=>by
   rw [z,ho'] at ho
   cases ho
   rw [hc'] at hc
   exact absurd hc (by decide)) a it e hei fun A hA h1 h2 items=>WalksT.enumerate hA e it a hei h1 h2 items
theorem Kw (a it e:Addr) (hei:e ≠ it):Turn P w K (.Tuple elts kk tp) (Wn (SqT K) a) [e,it] e (fun i h=>(∃ old,IsEnum h e it (i:Int) old)/\h.IsTupleIter it a i) :=
 Ch (isIt:=Heap.IsTupleIter) (isq:=Heap.IsTuple) (fun h c l i ⟨o,e,_,d⟩=>⟨o,e,fun v z=>by rw [d] at z; cases z⟩) (fun h h' c l i z k=>z.at k) (fun X pins σ H s c xs hK I hq=>by subst hK; obtain ⟨its,rv,p,_⟩:=I.tuple hq; exact ⟨its,rv,p⟩) (fun X pins σ H s c xs ys hK I hq hr=>by subst hK; exact I.tuple_inj hq hr)
  (fun h c e it i old its he ⟨o,ho,hc,_⟩ z=>by
   rw [z,he] at ho
   cases ho
   exact absurd (show Value.type "enumerate" = .type "tuple" from hc) (by decide))
  (fun h c l i its e ⟨o',ho',hc',_⟩ ⟨o,ho,hc,_⟩ z=>by
   rw [z,ho'] at ho
   cases ho
   rw [hc'] at hc
   exact absurd hc (by decide)) a it e hei fun A hA h1 h2 items=>Vj hA e it a hei h1 h2 items
end
section
variable {X:Cx} {elts:List Expr} {kk:Nat} {tp:Pos}
noncomputable def Xl (K:PySem.W.Frag) (R:It->Hp->Prop) (a:Addr) (xs:List V) (H:Hp):Prop:=SqL K H a xs/\R (Wn (SqL K) a) H\/SqT K H a xs/\R (Wn (SqT K) a) H
noncomputable def Tn (K:PySem.W.Frag) (ta:TA):TI:=fun σ H R=>ta σ H fun vs H1=>∃ a xs,vs = [.ref a]/\Xl K R a xs H1
theorem Rh {a:Expr} {ta:TA} {p pos:Pos} (hg:Gl X "enumerate") (hm:X.mg "enumerate" = none) (hv:bootBuiltins "enumerate" = some (.type "enumerate")) (ha:PA X [a] ta) (hs:starEach [a] X.env = [(false,eval a X.env)]:=by rfl):PI X (.Tuple elts kk tp) (.Call (.Name "enumerate" p) [a] [] pos) (Tn X.K ta):=by
 intro pins s σ H R I h
 refine Call_ (t9 I hg hm hv (PyProof.Rows.callWith_type1 (thn (ha pos pins s σ H _ I h) fun us s1 ⟨vs,H1,I1,r1,q1⟩=>?_) hs rfl))
 obtain ⟨l,xs,e,q⟩:=q1
 subst e
 obtain ⟨u,rfl,ru⟩:=X1 r1
 cases ru
 have fpk:∀ b ∈ [s1.heap.objs.size + 1,s1.heap.objs.size],Bh X pins H1 b:=fun b hb=>by
  rcases List.mem_cons.mp hb with z | hb
  ·rw [z]
   exact I1.fpOk (Nat.le_succ _) (I1.hok.fresh (Nat.le_succ _))
  ·rw [List.mem_singleton.mp hb]
   exact I1.fpOk (Nat.le_refl _) (I1.hok.fresh (Nat.le_refl _))
 rcases q with ⟨hq,q⟩ | ⟨hq,q⟩
 ·obtain ⟨its,rv,pl,hz⟩:=I1.list hq
  exact call_enumerate_list pl.isList fun h' he hit hsz k=>wpAny_pyIter_enum he ⟨s1.heap.objs.size + 1,_,_,_,H1,rfl,I1.kept (t':=s1.toks) k,Kz l s1.heap.objs.size (s1.heap.objs.size + 1) (Nat.succ_ne_self _),⟨⟨_,he⟩,hit⟩,fpk,q⟩
 ·obtain ⟨its,rv,pl,hz⟩:=I1.tuple hq
  exact Ko pl fun h' he hit k=>wpAny_pyIter_enum he ⟨s1.heap.objs.size + 1,_,_,_,H1,rfl,I1.kept (t':=s1.toks) k,Kw l s1.heap.objs.size (s1.heap.objs.size + 1) (Nat.succ_ne_self _),⟨⟨_,he⟩,hit⟩,fpk,q⟩
end
end L2
namespace L2
open PySem PySem.Spec PyProof.Rows
theorem Re {K:PySem.W.Frag} {R:It->Hp->Prop} {a:Addr} {xs:List V} {H H':Hp} (h:Sqs K H a xs) (k:KeepAt a H H') (q:∀ sq:Hp->Addr->List V->Prop,(∀ H1,KeepAt a H H1->sq H1 a xs)->R (Wn sq a) H'):Xl K R a xs H':=by
 rcases h with h | h
 ·exact .inl ⟨k.seqL h,q _ fun H1 k=>k.seqL h⟩
 ·exact .inr ⟨k.seqT h,q _ fun H1 k=>k.seqT h⟩
section
variable {X:Cx} (K:PySem.W.Frag)
theorem zCc {elts:List Expr} {kk:Nat} {tp:Pos} {a:Expr} {ta:TA} {p pos:Pos} (hm:X.mg "enumerate" = none) (ha:PA X [a] ta) (hg:Gl X "enumerate":=by rfl) (hs:starEach [a] X.env = [(false,eval a X.env)]:=by rfl) (hK:X.K = K:=by rfl) :
  PI X (.Tuple elts kk tp) (.Call (.Name "enumerate" p) [a] [] pos) (Tn K ta):=by subst hK; exact Rh hg hm Fo ha hs
end
end L2
namespace L2
open PySem PySem.Spec PyProof.Rows
section
variable {X:Cx} {tg iter elt:Expr} {ifs:List Expr} {scope:Scope} {cl:List (Str × Addr)} {N':List Str} {cap:List (Option Nat)} {wi:TI} {pos:Pos}
theorem Qe {e:Expr} {gs:List Comprehension} {newAcc:Sem Value} {p2:Pos} {use:Option (Value->Sem Unit)} {Qv:Value->Shared->Prop} (hcl:clausesOf e = ⟨tg,iter,ifs,0⟩ :: gs) (o:Addr->HO) (hs:∀ x,foldedSetIterable iter X.env x = pure x) (S:CScope X scope cl N' cap) (hc:X.calm = true) (hi:PI X tg iter wi)
  {lp:Addr->It->St->Hp->(St->Hp->Prop)->Prop}
  (hnew:∀ (pins:List (Addr × Obj)) (s:Shared) (σ:St) (H:Hp) (Q:Value->Shared->Prop) (E:Value->Shared->Prop),Inv X pins σ H s->(∀ s',Inv X pins σ (upd H s.heap.objs.size (o s.heap.objs.size)) s'->(∀ b ob,s.heap.get? b = some ob->s'.heap.get? b = some ob)->Q (.ref s.heap.objs.size) s')->wpAny (model X.prog X.w) X.A newAcc Q E s)
  (hlp:∀ (pins:List (Addr × Obj)) (ex:List Addr) (s3:Shared) (H3:Hp) (D it:Addr) (fp:List Addr) (tn:Nat->Heap->Prop) (J:It) (σ:St) (s:Shared) (H:Hp) (Q:St->Hp->Prop) (R:Result->Shared->Prop),
   Turn X.prog X.w X.K tg J fp it tn->Inv (cxC X scope cl N' pins ex s3 H3) [] σ H s->tn 0 s.heap->(∀ b ∈ fp,Bh (cxC X scope cl N' pins ex s3 H3) [] H b)->lp D J σ H Q ->
   (∀ s' σ' H',Inv (cxC X scope cl N' pins ex s3 H3) [] σ' H' s'->Q σ' H'->R (.ok .next) s') ->
   codeAny (model X.prog X.w) X.A (.compLoop e 0 (.ref it) (.ref D) (compEnvC scope cl s3.heap.objs.size X.env)) R s)
  (hun:∀ it D env,X.A.under (.compStart e 0 (.ref it) (.ref D) env) = X.A) (hden:∀ it D env,(model X.prog X.w).den (.compStart e 0 (.ref it) (.ref D) env) = (compStart e 0 (.ref it) (.ref D) env).onRaise (fun x=>do noteFrame x env; standAt theWindowsPlace))
  {pins:List (Addr × Obj)} {s:Shared} {σ:St} {H:Hp} {Q:V->Hp->Prop} (I:Inv X pins σ H s) (h:Fc wi o cap lp σ H Q)
  (hend:∀ (D:Addr) (fp:List Addr) (H2:Hp) (s3 s':Shared) (σ':St) (H':Hp),Inv X pins σ H2 s3->(∀ b ∈ fp,Bh X pins H2 b)->Inv (cxC X scope cl N' pins fp s3 H2) [] σ' H' s'->Q (.ref D) H'->compPost (model X.prog X.w) X.A X.xe use Qv (.ref D) s3.heap.objs.size (.ok .next) s') :
  wpAny (model X.prog X.w) X.A (comprehension e scope X.env p2 newAcc false (eval iter X.env) use) Qv X.xe s:=by
 refine wpAny_comprehension_free hcl hs S.clos S.kind S.loc (thn (hi pins s σ H _ I h) fun v s1 h1=>thn h1 fun itv s2 h2=>?_)
 obtain ⟨it,fp,tn,J,H2,eit,I2,T,st2,f2,R2⟩:=h2
 subst eit
 refine hnew pins s2 σ H2 _ _ I2 fun s3 I3 k3=>?_
 have hD:H2 s2.heap.objs.size = none:=I2.hok.fresh (Nat.le_refl _)
 have fok:∀ b ∈ fp,Bh X pins (upd H2 s2.heap.objs.size (o s2.heap.objs.size)) b/\∃ ob,s3.heap.get? b = some ob:=fun b hb=>by
  obtain ⟨ob,e,_⟩:=T.obj _ _ st2 b hb
  obtain ⟨f0,fr⟩:=f2 b hb
  exact ⟨⟨by rw [B2 (Nat.ne_of_lt (Heap.lt_size e))]; exact f0,fr⟩,ob,k3 b ob e⟩
 refine wpAny_newFunctionEnv S.nocell (by intro y hy; simp at hy) (fun h1 hns hsb=>?_) S.kind
 have hk:∀ b ob,s3.heap.get? b = some ob->h1.get? b = some ob:=fun b ob e=>(hsb.2 b (Nat.ne_of_lt (Heap.lt_size e))).trans (Heap.get?_push_of_some _ e)
 have I4:Inv (cxC X scope cl N' pins fp s3 (upd H2 s2.heap.objs.size (o s2.heap.objs.size))) [] (Ra cap σ) (upd H2 s2.heap.objs.size (o s2.heap.objs.size)) { s3 with heap:=h1,toks:=s3.toks + ([]:List (Str × Value)).length } :=
  I3.block S hc fok hns hk
 have st4:tn 0 h1:=T.keep 0 _ _ st2 fun b hb ob e=>hk b ob (k3 b ob e)
 refine Y6 (X:=cxC X scope cl N' pins fp s3 (upd H2 s2.heap.objs.size (o s2.heap.objs.size))) (gs:=⟨tg,iter,ifs,0⟩ :: gs) (e:=e) (d:=0) (tg:=tg) (iter:=iter) (ifs:=ifs) (hun _ _ _) (hden _ _ _) hcl rfl T st4 ?_
 refine hlp pins fp s3 _ s2.heap.objs.size it fp tn J (Ra cap σ) _ _ _ _ T I4 st4 (fun b hb=>?_) (R2 _ hD) fun s' σ' H' I' q'=>?_
 ·obtain ⟨⟨f0,f1,f2',f3,f4,f5⟩,ob,eo⟩:=fok b hb
  refine ⟨f0,Nat.ne_of_lt (Heap.lt_size eo),fun hf=>?_,.inl hb,fun x c e=>f4 x c (S.cin.get e),fun p hp=>f5 p (by simpa [cxC] using hp)⟩
  rcases List.mem_cons.mp (I3.stkSub b hf) with z | z
  ·exact f1 z
  ·exact f2' z
 ·exact hend _ fp _ s3 s' σ' H' I3 (fun b hb=>(fok b hb).1) I' q'
theorem Qj {i:Nat} {x:Str} {pos' cpos:Pos} {g:TG} {tc:TT} {te:TE} (hN:X.N.Nodup) (hi:X.N[i]? = some x) (hx:Loc X.env.scope x) (S:CScope X scope cl N' cap) (hc:X.calm = true) (hI:PI X tg iter wi)
  (hb:∀ (pins:List (Addr × Obj)) (ex:List Addr) (s3:Shared) (H3:Hp),PG (cxC X scope cl N' pins ex s3 H3) tg g/\PTs (cxC X scope cl N' pins ex s3 H3) ifs tc/\PE (cxC X scope cl N' pins ex s3 H3) elt te)
  (hs:∀ x,foldedSetIterable iter X.env x = pure x:=by intro _; rfl)
  (hsw:swapsWith (.ListComp elt [⟨tg,iter,ifs,0⟩] scope cpos) (some (.Name x pos')) pos.line X.env = pure true:=by rfl)
  (hf:X.fn x = true\/X.env.scope.names.lookup x = some .local:=by first | exact .inl rfl | exact .inr rfl | assumption) :
  PS X (.Assign [.Name x pos'] (.ListComp elt [⟨tg,iter,ifs,0⟩] scope cpos) pos) (Wp (Fc wi (fun _=>.lst []) cap fun D J σ H Q=>Ha g tc (Lw D te) J σ H Q) (T9 i)):=by
 intro pins s σ H D I h
 rw [exec_Assign]
 refine wpAny_bind (wpAny_standAt (wpAny_bind (wpAny_of_eq hsw (wpAny_ite_true rfl (wpAny_bind (wpAny_bind ?_))))))
 refine Qe (newAcc:=newList []) (p2:=firstIterPos [⟨tg,iter,ifs,0⟩] cpos) rfl (fun _=>.lst []) hs S hc hI (fun pins s σ H Q E I h=>?_) (fun pins ex s3 H3 D it fp tn J σ s H Q R T I st hf h hR=>?_) (fun _ _ _=>rfl) (fun _ _ _=>rfl) I h fun E fp H2 s3 s' σ' H' I3 fok I' q=>?_
 ·refine wpAny_newList ?_
  exact h _ (I.lnew (t':=s.toks) (its:=[]) .nil (Nat.zero_le _)) fun b ob e=>Heap.get?_push_of_some _ e
 ·obtain ⟨b1,b2,b3⟩:=hb pins ex s3 H3
  exact S7 (X:=cxC X scope cl N' pins ex s3 H3) rfl rfl hc rfl (Ca elt tg iter ifs scope cpos _ _ _) b1 b2 (Jo rfl b3) T I st hf h hR
 ·have IX:Inv X pins σ H' s':=I3.unblock fok I' ⟨rfl,fun _ _=>rfl⟩
  have fC:Bh X pins H' s3.heap.objs.size:=I3.fpOk (Nat.le_refl _) I'.free
  obtain ⟨m,hn,_⟩:=I'.loc
  show wpAny _ _ (assign (.Name x pos') X.env (.ref E)) _ _ _
  refine wpAny_assign_Name (Gb (v:=.ref E) IX hN hi hx rfl (fun s2 I2 ⟨a,hsb,ha⟩=>?_) hf)
  have nC:s3.heap.objs.size ≠ a:=by
   rcases ha with rfl | ha
   ·exact fC.2.1
   ·exact (fC.2.2.2.2.1 _ _ ha).symm
  refine ⟨m,?_,fun h' hsb'=>wpAny_pure (wpAny_pure ?_)⟩
  ·obtain ⟨ob,es,ep,e1,r⟩:=hn
   exact ⟨ob,es,ep,(hsb.2 _ nC).trans e1,r⟩
  refine ⟨_,H',?_,q⟩
  have k:∀ b ob,b ∉ [s3.heap.objs.size]->s2.heap.get? b = some ob->h'.get? b = some ob:=fun b ob hb e=>(hsb'.2 b fun z=>hb (List.mem_singleton.mpr z)).trans e
  refine I2.step (h':=h') (H':=H') (t':=s2.toks) (g':=s2.gens) (d':=s2.drawn) (ch:=[s3.heap.objs.size]) (fun b hb=>by rw [List.mem_singleton.mp hb]; exact ⟨fC.2.2.2.1,fC.2.1,fC.2.2.2.2⟩) (fun b ob _ _ hc e _=>k b ob hc e) (fun b ob _ _ hc e _=>⟨ob.slots,k b ob hc e⟩) (fun _ _ _ _ n=>n)
   (fun b ob hc e=>⟨ob,k b ob hc e⟩) (fun _ _ e=>e) (fun _ _ _ e=>e) (fun b ps e=>⟨#[],by rw [e]; simp⟩) (fun m hm=>?_) (fun b u eb=>?_) I2.bare
  ·obtain ⟨ob,es,ep,ho,r⟩:=hm
   exact ⟨ob,es,ep,k _ ob (fun hb=>fC.2.1 (List.mem_singleton.mp hb).symm) ho,r⟩
  ·have nf:∀ b u,H' b = some u->b ∉ [s3.heap.objs.size]:=fun b u e hb=>by rw [List.mem_singleton.mp hb,fC.1] at e; cases e
   refine (I2.hok b u eb).stay (fun c v hc q=>k c v ?_ q) (fun _ q=>q) fun _ _ q=>q
   rcases hc with z | z
   ·rw [z]; exact nf b u eb
   ·exact nf c _ z
end
end L2
namespace L2
open PySem PySem.Spec PyProof.Rows
structure IsC (K:PySem.W.Frag) (C:Addr):Prop where
 ha:PySem.W.findIn K (.ref C) "__class__" = some (some (.builtin "object.__class__"))
 hn:PySem.W.specialIn K (.builtin "object.__class__") "__get__" = some (some (.builtin "getset_descriptor.__get__"))
 htk:PySem.W.takesIn K (.builtin "object.__class__") = some true
 hm:PySem.W.mroIn K C (.type "object") = some true
 one:PySem.W.kitOne K (.ref C) (.ref C) = some true
theorem kit_same (K:PySem.W.Frag) (a:Addr):PySem.W.kitOne K (.ref a) (.ref a) = some true:=if_pos (beq_self_eq_true _)
section
variable {X:Cx}
theorem Fv {x:Str} {C:Addr} {pos:Pos} (h:X.mg x = some (.ref C)) (hg:Gl X x:=by rfl) (hd:(x == ("__debug__":Str)) = false:=by decide):PE X (.Name x pos) (tC (.ref C)):=Ip hg h rfl hd
end
end L2
namespace L2
open PySem PySem.Spec PyProof.Rows
noncomputable def U3 (l xs:List Str):List Str:=xs.foldl Ek l
theorem Rg (l:List Str) (x:Str):(Ek l x).length<=l.length + 1:=by
 unfold Ek
 split
 ·omega
 ·rw [List.length_append]; exact Nat.le_refl _
theorem Xk {w:World} {h h':Heap} {a:Addr} {ss:List Str} (z:ST.WS w h a ss) (k:∀ o,h.get? a = some o->h'.get? a = some o):ST.WS w h' a ss:=by
 obtain ⟨o,es,ep,t,S,r⟩:=z
 exact ⟨o,es,ep,t,S.at (k o S.ho),r⟩
section
variable {prog:Program} {w:World} {A:Around} {R:Result->Shared->Prop} {I:Addr} {fp wr:List Addr} {G:Array GenState->Array GenState->Prop} {n:Nat} {P:Nat->Value->Prop} {St:Nat->Shared->Prop}
theorem Pf (W:WalksS prog w A.in1 I fp wr G n P St) (S:Addr) (hSf:S ∉ fp) (xs:List Str) (hn:xs.length = n) (hval:∀ i v,P i v->∃ x t,xs[i]? = some x/\v = .str x t) :
  ∀ (k i:Nat) (s:Shared) (ss:List Str),n - i = k->i<=n->St i s->ST.WS w s.heap S ss->ss.length + k < 4096 ->
   (∀ s',Moved (S :: wr) G s s'->ST.WS w s'.heap S (U3 ss (xs.drop i))->R (.ok (.ret .none)) s') ->
   codeAny (model prog w) A (.builtin "set.update.loop" ⟨[.ref S,.ref I],[]⟩) R s:=by
 have hSw:S ∉ wr:=fun h=>hSf (W.sub _ h)
 have hsub:∀ b ∈ wr,b ∈ S :: wr:=fun b hb=>List.mem_cons_of_mem _ hb
 intro k
 induction k with
 | zero =>
  intro i s ss hk hi hst hS _ hR
  have hin:i = n:=by omega
  subst hin
  refine codeAny_builtin F.entry_set_update_loop ?_
  rw [Around.under_plainId F.plain_set_update_loop _]
  refine wpAny_bind (W.done s _ _ hst fun s' hm=>?_)
  have q:=hR s' (hm.mono hsub)
  rw [<-hn,List.drop_length] at q
  exact wpAny_pure (q (Xk hS fun o=>hm.heap S o hSw))
 | succ k ih =>
  intro i s ss hk hi hst hS hz hR
  refine codeAny_builtin F.entry_set_update_loop ?_
  rw [Around.under_plainId F.plain_set_update_loop _]
  refine wpAny_bind (W.item i s _ _ (by omega) hst fun v s' hP hst' hm=>?_)
  obtain ⟨x,t,hx,rfl⟩:=hval i v hP
  show wpAny _ A.in1 (holding [Value.str x t] (setAdd S (.str x t)) >>= _) _ _ s'
  refine wpAny_bind (wpAny_holding ?_)
  unfold setAdd
  refine wpAny_holding (wpAny_bind (wpAny_pyHash_str ?_))
  refine ST.add_txt (s:={ s' with toks:=s'.toks + 1 }) (Xk hS fun o=>hm.heap S o hSw) (by omega) fun h' b hsb z'=>?_
  refine wpAny_pure ⟨plainId_quiet F.plain_set_update_loop _,ih (i + 1) _ (Ek ss x) (by omega) (by omega) (W.frame _ s' _ _ hst' (Nat.le_succ _) fun b hb o e=>?_) z' (by have:=Rg ss x; omega) fun s'' hm'' hS''=>?_⟩
  ·rw [hsb.2 b (fun h:b = S=>hSf (by rw [<-h]; exact hb))]; exact e
  ·refine hR s'' (Moved.trans W.gtrans ((hm.mono hsub).then_heap (Nat.le_succ _) fun b o hb e=>?_) hm'') ?_
   ·rw [hsb.2 b (fun h:b = S=>hb (by rw [h]; exact List.mem_cons_self))]; exact e
   ·have hd:xs.drop i = x :: xs.drop (i + 1):=by
     obtain ⟨hi',ex⟩:=List.getElem?_eq_some_iff.mp hx
     rw [<-ex]
     exact List.drop_eq_getElem_cons hi'
    rw [hd]
    exact hS''
end
section
variable {prog:Program} {w:World} {A:Around} {E:Value->Shared->Prop} {s:Shared}
noncomputable abbrev freshW (w:World):Obj:={ cls:=.type "set",dict:=none,data:=.set #[] 0 (.fresh 0 0 (!(w.params.followText "set-order"))) }
theorem Rf {h:Heap} {a:Addr} (e:h.get? a = some (freshW w)):ST.WS w h a [] :=
 ⟨_,#[],0,_,⟨e,⟨rfl,rfl,rfl⟩,rfl,by rfl,rfl,fun _=>rfl,by decide⟩,⟨fun e he=>by simp at he,by simp,List.nodup_nil⟩⟩
theorem Ru (a:Value) {Q₁:Value->Shared->Prop} (h:Q₁ (.ref s.heap.objs.size) { s with heap:=s.heap.push (freshW w) }) :
  codeAny (model prog w) A (.call (.builtin "set.__new__") ⟨[.type "set",a],[]⟩) (wants Q₁ E) s:=by
 refine codeAny_of_tree ?_
 show wpAny _ A.in1 (do checkBuiltinCall "set.__new__" ⟨[.type "set",a],[]⟩; again (.builtin "set.__new__" ⟨[.type "set",a],[]⟩)) _ _ s
 refine wpAny_bind (wpAny_of_eq (F.newCall_set_1 a) (wpAny_pure ⟨plainId_quiet F.plain_set_new _,codeAny_builtin F.entry_set_new ?_⟩))
 rw [Around.under_plainId F.plain_set_new _]
 unfold Builtin.«set.__new__» Builtin.Frozenset.newClass
 have hsub:=sub_set_self
 obtain ⟨hp,g,d,tk,os⟩:=s
 dsimp only
 wp_walk
 refine wpAny_askSetting (wpAny_pure ?_)
 dsimp only
 simp only [newObj]
 refine wpAny_bind (wpAny_alloc (wpAny_pure ?_))
 exact wpAny_pure h
set_option maxHeartbeats 3200000 in
theorem Bv {l:Addr} {ol it:Obj} {nm:String} {xs:List Str} {n:Nat} {P:Nat->Value->Prop} {St:Addr->Nat->Heap->Prop} {Q:Value->Shared->Prop} (hh:A.handled = none) (hol:s.heap.get? l = some ol) (hcl:ol.cls = .type nm)
  (hs1:isSubtype (.type nm) (.type "set") = pure false) (hs2:isSubtype (.type nm) (.type "frozenset") = pure false) (hne:(Value.type nm == Value.type "dict") = false)
  (hit:∀ {A:Around} {E:Value->Shared->Prop} {Q:Value->Shared->Prop} (s1:Shared),s1.heap.get? l = some ol->Q (.ref s1.heap.objs.size) { s1 with heap:=s1.heap.push it }->wpAny (model prog w) A (pyIter (.ref l)) Q E s1)
  (hW:∀ (A:Around) (I:Addr),A.handled = none->l ≠ I->Walks prog w A I [I,l] [I] n P (St I)) (hSt:∀ (h:Heap) (I:Addr),h.get? I = some it->h.get? l = some ol->St I 0 h) (hiti:it.isFreed = false)
  (hn:xs.length = n) (hval:∀ i v,P i v->∃ x t,xs[i]? = some x/\v = .str x t) (hb:n < 4096)
  (h:∀ (h':Heap) (tk:Nat),ST.WS w h' s.heap.objs.size (U3 [] xs)->(∀ b o,s.heap.get? b = some o->h'.get? b = some o)->Q (.ref s.heap.objs.size) { s with heap:=h',toks:=tk }) :
  wpAny (model prog w) A (call (.type "set") [.ref l]) Q E s:=by
 obtain ⟨c,tl,hmro⟩:=F.called_set.mro
 have hmade:=F.called_set.made
 have hsub:=F.called_set.sub
 refine wpAny_call (codeAny_of_tree ?_)
 show wpAny _ _ (callAny (.type "set") _) _ _ _
 refine wpAny_pure ⟨Code.quiet_builtin _ (by decide +kernel),codeAny_builtin F.entry_type_call ?_⟩
 rw [Around.under_plain (weight_type_call_type "set" [.ref l] []) rfl]
 have h1:=F.called_set.notType
 have h2:=F.called_set.canCreate
 have hct:=F.typeCall_set_1 (.ref l)
 repeat (any_goals (first | assumption | wp_step))
 refine codeAny_mono (Ru (.ref l) (E:=E) (Q₁:=fun obj s₁=>obj = .ref s.heap.objs.size/\s₁ = { s with heap:=s.heap.push (freshW w) }) ⟨rfl,rfl⟩) fun r s₁ hr=>?_
 cases r with
 | error e=>exact hr
 | ok fl =>
  cases fl with
  | ret obj =>
   obtain ⟨rfl,rfl⟩:=hr
   have hS:(s.heap.push (freshW w)).get? s.heap.objs.size = some (freshW w):=Heap.get?_push_size _ rfl
   have hT:Shared.TypeIs { s with heap:=s.heap.push (freshW w) } (.ref s.heap.objs.size) "set":=⟨_,hS,rfl⟩
   have hli:=F.called_set.init.lookup
   have hbi:=F.called_set.init.bind (.ref s.heap.objs.size)
   repeat (any_goals (first | assumption | wp_step))
   refine codeAny_mono (codeAny_call_builtin (R:=wants (fun r s₂=>r = .none/\∃ h' tk,s₂ = { s with heap:=h',toks:=tk }/\ST.WS w h' s.heap.objs.size (U3 [] xs) /\
     (∀ b o,s.heap.get? b = some o->h'.get? b = some o)) E) F.called_set.init.plain F.entry_set_init (check_set_init_1 hT ?_)) fun r₂ s₂ hr₂=>?_
   ·have hol':(s.heap.push (freshW w)).get? l = some ol:=Heap.get?_push_of_some _ hol
    obtain ⟨ocls,odict,odata,oslots⟩:=ol
    simp only at hcl
    subst hcl
    unfold Builtin.«set.__init__» noKeywords Builtin.Frozenset.updateFrom
    generalize hPI:pyIter = PI
    wp_walk
    subst hPI
    refine hit _ hol' ?_
    refine wpAny_bind (wpAny_runValue ?_)
    have hlS:l < s.heap.objs.size:=Heap.lt_size hol
    have hh3:A.in1.in1.in1.handled = none:=by simp [hh]
    have hneI:l ≠ (s.heap.push (freshW w)).objs.size:=by
     rw [Heap.size_push]; exact Nat.ne_of_lt (Nat.lt_succ_of_lt hlS)
    have hSf:s.heap.objs.size ∉ [(s.heap.push (freshW w)).objs.size,l]:=by
     rw [Heap.size_push]; simp only [List.mem_cons,List.not_mem_nil,or_false,not_or]
     exact ⟨Nat.ne_of_lt (Nat.lt_succ_self _),Nat.ne_of_gt hlS⟩
    refine Pf ((hW _ _ hh3 hneI).toS) s.heap.objs.size hSf xs hn hval (n - 0) 0 _ [] rfl (Nat.zero_le _) (hSt _ _ (Heap.get?_push_size _ hiti) (Heap.get?_push_of_some _ hol')) (Rf (Heap.get?_push_of_some _ hS)) (by simpa using hb) fun s' hm hS'=>?_
    obtain ⟨h',g',d',tk',os'⟩:=s'
    have eg:g' = s.gens:=hm.gens
    have ed:d' = s.drawn:=hm.drawn
    have eo:os' = s.os:=hm.os
    subst eg; subst ed; subst eo
    show wpAny _ _ _ _ _ _
    refine wpAny_pure ?_
    show wpAny _ _ (ret Value.none) _ _ _
    refine wpAny_pure ⟨rfl,h',tk',rfl,hS',fun b o e=>?_⟩
    have hb:=Heap.lt_size e
    have hb1:b ≠ s.heap.objs.size:=Nat.ne_of_lt hb
    have hb2:b ≠ (s.heap.push (freshW w)).objs.size:=by
     rw [Heap.size_push]; exact Nat.ne_of_lt (Nat.lt_succ_of_lt hb)
    exact hm.heap b o (by simp only [List.mem_cons,List.not_mem_nil,or_false,not_or]; exact ⟨hb1,hb2⟩) (Heap.get?_push_of_some _ (Heap.get?_push_of_some _ e))
   ·cases r₂ with
    | error e=>exact hr₂
    | ok fl₂ =>
     cases fl₂ with
     | ret r =>
      obtain ⟨rfl,h',tk,rfl,hS',hk'⟩:=hr₂
      repeat (any_goals (first | assumption | wp_step))
      exact h _ _ hS' hk'
     | _=>exact hr₂.elim
  | _=>exact hr.elim
end
theorem Ee:isSubtype (.type "tuple") (.type "set") = pure false:=by rw [isSubtype_type]; kernel_rfl
theorem U8:isSubtype (.type "tuple") (.type "frozenset") = pure false:=by rw [isSubtype_type]; kernel_rfl
theorem Mn {ss:List Str} {its:List Value} (r:Vals (ss.map V.str) its) (i:Nat) (v:Value) (e:its.toArray[i]? = some v):∃ x t,ss[i]? = some x/\v = .str x t:=by
 rw [List.getElem?_toArray] at e
 cases h:ss[i]? with
 | none =>
  have:=r.none_of (i:=i) (by rw [List.getElem?_map,h]; rfl)
  rw [this] at e; cases e
 | some x =>
  obtain ⟨u,e1,t,e2⟩:=r.get (i:=i) (x:=.str x) (by rw [List.getElem?_map,h]; rfl)
  rw [e1] at e
  cases e
  exact ⟨x,t,rfl,e2⟩
end L2
namespace L2
open PySem PySem.Spec PyProof.Rows
section
variable {X:Cx}
theorem Rv (hc:X.calm = true):E9 X (.builtin "any") (fun xs H Q=>∃ (p:Addr) (bs:List Bool),xs = [.ref p]/\SqL X.K H p (bs.map V.bl)/\Q (.bl (bs.any id)) H):=by
 intro pins s σ H xs us Q I r h
 obtain ⟨p,bs,rfl,hq,q⟩:=h
 obtain ⟨u,rfl,ru⟩:=X1 r
 cases ru
 obtain ⟨its,rv,pl,hz⟩:=I.list hq
 refine call_any_walk (wpAny_pyIter_list pl.isList ?_)
 have hne:p ≠ s.heap.objs.size:=by
  obtain ⟨o,n,e,_⟩:=pl
  exact Nat.ne_of_lt (Heap.lt_size e)
 refine ⟨s.heap.objs.size,_,_,_,_,_,fun i=>bs.getD i false,rfl,Walks.list (A:=X.A.in1) (show X.A.in1.handled = none from I.ok.hd hc) _ p hne its.toArray,⟨⟨_,Heap.get?_push_size _ rfl,rfl,rfl⟩,?_⟩,fun i v s' Q' E' hv q'=>?_,fun h' tk k=>?_⟩
 ·obtain ⟨o,n,e,c,d,e2⟩:=pl
  exact ⟨o,Heap.get?_push_of_some _ e,c,n,e2⟩
 ·have hb:(bs.map V.bl)[i]? = some (V.bl (bs.getD i false))/\RelV (V.bl (bs.getD i false)) v:=by
   have hv':its[i]? = some v:=by simpa using hv
   have hi:i < its.length:=(List.getElem?_eq_some_iff.mp hv').1
   have hl:=rv.length
   rw [List.length_map] at hl
   have e:(bs.map V.bl)[i]? = some (V.bl (bs.getD i false)):=by
    rw [List.getElem?_map,List.getElem?_eq_getElem (by omega)]
    simp [List.getD_eq_getElem?_getD,List.getElem?_eq_getElem (show i < bs.length by omega)]
   obtain ⟨u,hu,ru⟩:=rv.get e
   rw [hv'] at hu
   cases hu
   exact ⟨e,ru⟩
  cases hb.2
  exact wpAny_truthy_bool q'
 ·have hl:=rv.length
  rw [List.length_map] at hl
  have e:(List.range its.toArray.size).any (fun i=>bs.getD i false) = bs.any id:=by
   rw [List.size_toArray,<-hl,Bool.eq_iff_iff,List.any_eq_true,List.any_eq_true]
   constructor
   ·rintro ⟨i,hi,z⟩
    have hi':=List.mem_range.mp hi
    refine ⟨bs[i],List.getElem_mem hi',?_⟩
    simpa [List.getD_eq_getElem?_getD,List.getElem?_eq_getElem hi'] using z
   ·rintro ⟨b,hb,z⟩
    obtain ⟨i,hi,rfl⟩:=List.mem_iff_getElem.mp hb
    refine ⟨i,List.mem_range.mpr hi,?_⟩
    simpa [List.getD_eq_getElem?_getD,List.getElem?_eq_getElem hi] using z
  rw [e]
  exact ⟨.bl (bs.any id),H,I.kept fun b o eb=>k b o (by
   intro hb
   have:b = s.heap.objs.size:=by simpa using hb
   exact absurd (Heap.lt_size eb) (by rw [this]; exact Nat.lt_irrefl _)) (Heap.get?_push_of_some _ eb),rfl,q⟩
theorem Zk:bootBuiltins "any" = some (.builtin "any"):=by decide +kernel
variable (K:PySem.W.Frag)
theorem Wt (hc:X.calm = true:=by rfl) (hK:X.K = K:=by rfl):E9 X (.builtin "any") (fun xs H Q=>∃ (p:Addr) (bs:List Bool),xs = [.ref p]/\SqL K H p (bs.map V.bl)/\Q (.bl (bs.any id)) H):=by subst hK; exact Rv hc
end
end L2
namespace L2
open PySem PySem.Spec PyProof.Rows
noncomputable def XO (x C:Addr) (d:Option Addr):HO:=.ext fun h=>∃ o vs,h.get? x = some o/\o.cls = .ref C/\o.dict = d/\o.data = .fields vs
theorem XO.ok {P:Program} {w:World} {H:Hp} {h:Heap} {x C:Addr} {d:Option Addr} {o:Obj} {vs:Array Value} (e:h.get? x = some o) (hc:o.cls = .ref C) (hd:o.dict = d) (hv:o.data = .fields vs):ObjOk P w H h x (XO x C d) :=
 ⟨⟨o,vs,e,hc,hd,hv⟩,⟨o,e⟩,fun h1 h2 ⟨o,vs,e,r⟩ k=>⟨o,vs,k o e,r⟩⟩
noncomputable def Fl (H:Hp) (n:Nat) (x:Addr) (h:Heap):Prop :=
 ∃ o vs,h.get? x = some o/\o.data = .fields vs/\1 < vs.size/\(vs[1]? = some .none\/∃ T oT ts,vs[1]? = some (.ref T)/\T ≠ x/\n<=T/\H T = none/\h.get? T = some oT/\oT.data = .fields ts/\3 < ts.size)
structure RX (P:Program) (w:World) (base:Heap) (fs:List Env) (env:Env) (outer:List Env) (H0:Hp) (s0:Shared) (x C:Addr) (d:Option Addr) (H:Hp) (s:Shared):Prop where
 os:s.os = s0.os
 bare:AllBare s.gens
 un:Un (frs fs) [] H0 H s0.heap s.heap
 hok:HOk P w H s.heap
 bsz:base.objs.size<=s0.heap.objs.size
 bs:∀ b o,base.get? b = some o->s.heap.get? b = some o/\H b = none
 funs:s.heap.FunFrames base (env :: outer)
 frf:∀ b ∈ frs (env :: outer),H b = none
 loc:∃ L,env.frame = some L
 old:∀ b o,s0.heap.get? b = some o->b ∉ frs fs->b ∉ frs (env :: outer)
 sub:∀ b ∈ frs fs,b ∈ frs (env :: outer)
 hx:H x = some (XO x C d)
 nx:s0.heap.objs.size<=x
 fl:Fl H s0.heap.objs.size x s.heap
section
variable {P:Program} {w:World} {base:Heap} {env:Env} {fs outer:List Env} {H0 H:Hp} {s0 s:Shared} {x C:Addr} {d:Option Addr} {h':Heap}
theorem RX.chg (r:RX P w base fs env outer H0 s0 x C d H s) {TT:List Addr} (tt:∀ T ∈ TT,H T = none/\s0.heap.objs.size<=T/\∃ o ts,s.heap.get? T = some o/\o.data = .fields ts)
  (keep:∀ b o,b ≠ x->b ∉ TT->b ∉ frs (env :: outer)->s.heap.get? b = some o->h'.get? b = some o)
  (slot:∀ b o,b ∈ frs (env :: outer)->s.heap.get? b = some o->∃ sl,h'.get? b = some { o with slots:=sl })
  (ht:∀ T ∈ TT,∃ o,h'.get? T = some o) (hxo:∀ o,s.heap.get? x = some o->∃ vs,h'.get? x = some { o with data:=.fields vs }) (fl:Fl H s0.heap.objs.size x h') :
  RX P w base fs env outer H0 s0 x C d H { s with heap:=h' }:=by
 obtain ⟨ox,vx,ex,hcx,hdx,hvx⟩:∃ o vs,s.heap.get? x = some o/\o.cls = .ref C/\o.dict = d/\o.data = .fields vs:=(r.hok x _ r.hx).1
 obtain ⟨vx',ex'⟩:=hxo ox ex
 have nfr:∀ b,b ∈ frs (env :: outer)->b ≠ x:=fun b hb z=>by
  have:=r.frf b hb
  rw [z,r.hx] at this
  cases this
 have nft:∀ b,b ∈ frs (env :: outer)->b ∉ TT:=fun b hb z=>by
  obtain ⟨_,o,ho,hnf⟩:=r.funs.mem hb
  obtain ⟨_,_,o',ts,ho',hd'⟩:=tt b z
  rw [ho] at ho'
  cases ho'
  exact hnf ts hd'
 have old:∀ b o,s0.heap.get? b = some o->b ≠ x/\b ∉ TT:=fun b o e=>⟨fun z=>absurd (Heap.lt_size e) (by rw [z]; exact Nat.not_lt.mpr r.nx),fun z=>absurd (Heap.lt_size e) (Nat.not_lt.mpr (tt b z).2.1)⟩
 have there:∀ b o,s.heap.get? b = some o->∃ o',h'.get? b = some o':=fun b o e=>by
  by_cases c1:b = x
  ·rw [c1]; exact ⟨_,ex'⟩
  by_cases c2:b ∈ TT
  ·exact ht b c2
  by_cases c3:b ∈ frs (env :: outer)
  ·obtain ⟨sl,q⟩:=slot b o c3 e
   exact ⟨_,q⟩
  ·exact ⟨_,keep b o c1 c2 c3 e⟩
 have trk:∀ b u,H b = some u->b ≠ x->∀ o,s.heap.get? b = some o->h'.get? b = some o:=fun b u e c o ho =>
  keep b o c (fun z=>by rw [(tt b z).1] at e; cases e) (fun z=>by rw [r.frf b z] at e; cases e) ho
 refine ⟨r.os,r.bare,⟨fun b o e n hb hx=>?_,fun b o e n hb hx=>?_,r.un.free,fun b o e hx=>?_,r.un.tups,r.un.frzs,r.un.tbls⟩,fun b u e=>?_,r.bsz,fun b o e=>?_,?_,r.frf,r.loc,r.old,r.sub,r.hx,r.nx,fl⟩
 ·exact keep b o (old b o e).1 (old b o e).2 (r.old b o e hb) (r.un.keep b o e n hb hx)
 ·obtain ⟨sl,q⟩:=r.un.slot b o e n hb hx
  obtain ⟨sl',q'⟩:=slot b _ (r.sub b hb) q
  exact ⟨sl',q'⟩
 ·obtain ⟨o',q⟩:=r.un.there b o e hx
  exact there b o' q
 ·by_cases c:b = x
  ·subst c
   rw [r.hx] at e
   cases e
   exact XO.ok ex' hcx hdx rfl
  ·refine (r.hok b u e).stay (fun b' o hb q=>?_) (fun _ q=>q) fun _ _ q=>q
   rcases hb with z | z
   ·subst z; exact trk b' u e c o q
   ·refine trk b' _ z (fun q'=>?_) o q
    rw [q',r.hx] at z
    cases z
 ·refine ⟨keep b o (fun z=>?_) (fun z=>?_) (fun z=>?_) (r.bs b o e).1,(r.bs b o e).2⟩
  ·have:=(r.bs b o e).2
   rw [z,r.hx] at this
   cases this
  ·exact absurd (Heap.lt_size e) (Nat.not_lt.mpr (Nat.le_trans r.bsz (tt b z).2.1))
  ·have:=(r.funs.mem z).1
   rw [e] at this
   cases this
 ·refine r.funs.of_keeps fun b o e hnf=>?_
  by_cases c1:b = x
  ·subst c1
   rw [ex] at e
   cases e
   exact absurd hvx (hnf _)
  by_cases c2:b ∈ TT
  ·obtain ⟨_,_,o',ts,ho',hd'⟩:=tt b c2
   rw [e] at ho'
   cases ho'
   exact absurd hd' (hnf _)
  by_cases c3:b ∈ frs (env :: outer)
  ·obtain ⟨sl,q⟩:=slot b o c3 e
   exact ⟨_,q,rfl⟩
  ·exact ⟨o,keep b o c1 c2 c3 e,rfl⟩
noncomputable def Tb (H:Hp) (n:Nat) (x:Addr) (h:Heap):Prop :=
 ∃ o vs T oT ts,h.get? x = some o/\o.data = .fields vs/\vs[1]? = some (.ref T)/\T ≠ x/\n<=T/\H T = none/\h.get? T = some oT/\oT.data = .fields ts/\3 < ts.size
theorem Tb.fl {H:Hp} {n:Nat} {x:Addr} {h:Heap} (t:Tb H n x h):Fl H n x h:=by
 obtain ⟨o,vs,T,oT,ts,e,hd,h1,r⟩:=t
 exact ⟨o,vs,e,hd,(Array.getElem?_eq_some_iff.mp h1).1,.inr ⟨T,oT,ts,h1,r⟩⟩
theorem zCy {o:Obj} {vs:Array Value} (f:Array Value->Array Value) (e:o.data = .fields vs):Obj.mapFields f o = { o with data:=.fields (f vs) }:=by
 obtain ⟨a,b,c,d⟩:=o
 have e:c = .fields vs:=e
 subst e
 rfl
section
variable {M:Model} {A:Around} {E:Value->Shared->Prop} {Q:Unit->Shared->Prop}
theorem RX.entry (r:RX P w base fs env outer H0 s0 x C d H s) (hfr:A.frames = some (env :: outer)) {L:Addr} (hf:env.frame = some L) {head:Value} {hadNext:Bool}
  (h:∀ h',RX P w base fs env outer H0 s0 x C d H { s with heap:=h' }->Tb H s0.heap.objs.size x h'->Q () { s with heap:=h' }) :
  wpAny M A (do let a <-frameOf env; let pl <-entryPlaceOf L hadNext; let b <-EntryCells.newEntry head a .none (rawInt L) .none pl; setField (.ref x) 1 b) Q E s:=by
 obtain ⟨o,vs,he,hd,hsz,_⟩:=id r.fl
 have nfr:∀ b,b ∈ frs (env :: outer)->b ≠ x:=fun b hb z=>by
  have:=r.frf b hb
  rw [z,r.hx] at this
  cases this
 refine wpAny_bind (wpAny_frameOf_fun hfr r.funs hf fun h₁ hs₁=>?_)
 refine wpAny_bind (wpAny_entryPlaceOf fun pl hpl=>?_)
 unfold EntryCells.newEntry newFields
 refine wpAny_bind (wpAny_newObj_type ?_ (hpl.sizeOk5 _ _ _ _ _))
 have he₁:h₁.get? x = some o:=(hs₁.2.1 x fun hm=>nfr x hm rfl).trans he
 have ht5:3 < ([head,Value.ref L,.none,rawInt L,.none] ++ (if pl.isEmpty then List.replicate 6 Value.none else pl)).toArray.size:=by
  simp only [List.size_toArray,List.length_append,List.length_cons,List.length_nil]
  omega
 generalize ([head,Value.ref L,.none,rawInt L,.none] ++ (if pl.isEmpty then List.replicate 6 Value.none else pl)).toArray = ts at ht5
 have he₂:=Heap.get?_push_of_some (h:=h₁) { cls:=.type "traceback",dict:=none,data:=.fields ts } he₁
 have hTx:h₁.objs.size ≠ x:=Nat.ne_of_gt (Heap.lt_size he₁)
 have hT₃:=(Heap.get?_update_other (h₁.push { cls:=.type "traceback",dict:=none,data:=.fields ts }) (Obj.mapFields (·.setIfInBounds 1 (Value.ref h₁.objs.size))) (Ne.symm hTx)).trans (Heap.get?_push_size h₁ rfl)
 have he₃:=Heap.get?_update_self (Obj.mapFields (·.setIfInBounds 1 (Value.ref h₁.objs.size))) he₂ (Obj.isFreed_of_fields (Obj.data_mapFields hd _))
 rw [zCy _ hd] at he₃
 have tb:Tb H s0.heap.objs.size x ((h₁.push { cls:=.type "traceback",dict:=none,data:=.fields ts }).update x (Obj.mapFields (·.setIfInBounds 1 (Value.ref h₁.objs.size)))) :=
  ⟨_,_,h₁.objs.size,_,ts,he₃,rfl,by simp [hsz],hTx,Nat.le_trans r.nx (Nat.le_of_lt (Heap.lt_size he₁)),r.hok.fresh (by rw [hs₁.1]; exact Nat.le_refl _),hT₃,rfl,ht5⟩
 refine wpAny_setField he₂ hd hsz (h _ (r.chg (TT:=[]) (fun _ z=>nomatch z) (fun b o' hb _ hb' q=>?_) (fun b o' hb q=>?_) (fun _ z=>nomatch z) (fun o' q=>?_) tb.fl) tb)
 ·rw [Heap.get?_update_other _ _ (Ne.symm hb)]
  exact Heap.get?_push_of_some _ ((hs₁.2.1 b hb').trans q)
 ·obtain ⟨sl,q'⟩:=hs₁.2.2 b o' q
  refine ⟨sl,?_⟩
  rw [Heap.get?_update_other _ _ (Ne.symm (nfr b hb))]
  exact Heap.get?_push_of_some _ q'
 ·rw [he] at q
  cases q
  exact ⟨_,he₃⟩
theorem RX.setT (r:RX P w base fs env outer H0 s0 x C d H s) {o oT:Obj} {vs ts:Array Value} {T:Addr} {v:Value} (he:s.heap.get? x = some o) (hd:o.data = .fields vs) (h1:vs[1]? = some (.ref T)) (hT:T ≠ x) (hn:s0.heap.objs.size<=T) (hH:H T = none) (e:s.heap.get? T = some oT) (hdT:oT.data = .fields ts) (h3:3 < ts.size)
  (h:∀ h',RX P w base fs env outer H0 s0 x C d H { s with heap:=h' }->Tb H s0.heap.objs.size x h'->Q () { s with heap:=h' }):wpAny M A (setField (.ref T) 3 v) Q E s:=by
 have he':=(Heap.get?_update_other s.heap (Obj.mapFields (·.setIfInBounds 3 v)) hT).trans he
 have hT':=Heap.get?_update_self (Obj.mapFields (·.setIfInBounds 3 v)) e (Obj.isFreed_of_fields (Obj.data_mapFields hdT _))
 have tb:Tb H s0.heap.objs.size x (s.heap.update T (Obj.mapFields (·.setIfInBounds 3 v))):=⟨o,vs,T,_,_,he',hd,h1,hT,hn,hH,hT',Obj.data_mapFields hdT _,by simpa using h3⟩
 refine wpAny_setField e hdT h3 (h _ (r.chg (TT:=[T]) (fun b z=>?_) (fun b o' hb hb' _ q=>?_) (fun b o' hb q=>?_) (fun b z=>?_) (fun o' q=>?_) tb.fl) tb)
 ·rw [List.mem_singleton.mp z]
  exact ⟨hH,hn,_,_,e,hdT⟩
 ·rw [Heap.get?_update_other _ _ (fun z=>hb' (by rw [z]; exact List.mem_singleton.mpr rfl))]
  exact q
 ·refine ⟨o'.slots,?_⟩
  rw [Heap.get?_update_other _ _ (fun z=>by
   obtain ⟨_,o2,ho,hnf⟩:=r.funs.mem hb
   rw [<-z,e] at ho
   cases ho
   exact hnf _ hdT)]
  exact q
 ·rw [List.mem_singleton.mp z]
  exact ⟨_,hT'⟩
 ·rw [he] at q
  cases q
  exact ⟨vs,by rw [he',<-hd]⟩
theorem RX.note (r:RX P w base fs env outer H0 s0 x C d H s) (hfr:A.frames = some (env :: outer))
  (h:∀ h',RX P w base fs env outer H0 s0 x C d H { s with heap:=h' }->Tb H s0.heap.objs.size x h'->Q () { s with heap:=h' }):wpAny M A (noteFrame (.ref x) env) Q E s:=by
 obtain ⟨L,hf⟩:=r.loc
 obtain ⟨o,vs,he,hd,hsz,c⟩:=id r.fl
 unfold noteFrame
 simp only [hf]
 rcases c with h1 | ⟨T,oT,ts,h1,hT,hn,hH,e,hdT,h3⟩
 ·refine wpAny_bind (wpAny_field he hd h1 ?_)
  rw [if_neg (by decide)]
  exact r.entry hfr hf h
 ·refine wpAny_bind (wpAny_field he hd h1 ?_)
  rw [if_pos (show (Value.ref T != Value.none) = true from by simp)]
  refine wpAny_bind (wpAny_field e hdT (Array.getElem?_eq_getElem h3) ?_)
  split
  ·exact wpAny_pure (h s.heap r ⟨o,vs,T,oT,ts,he,hd,h1,hT,hn,hH,e,hdT,h3⟩)
  ·refine wpAny_bind (r.setT he hd h1 hT hn hH e hdT h3 fun h' r' _=>?_)
   exact r'.entry hfr hf h
theorem RX.flight (r:RX P w base fs env outer H0 s0 x C d H s) {fr:Option Addr}
  (h:∀ h',RX P w base fs env outer H0 s0 x C d H { s with heap:=h' }->(Tb H s0.heap.objs.size x s.heap->Tb H s0.heap.objs.size x h')->Q () { s with heap:=h' }):wpAny M A (setFlight (.ref x) fr) Q E s:=by
 obtain ⟨o,vs,he,hd,hsz,c⟩:=id r.fl
 unfold setFlight
 rcases c with h1 | ⟨T,oT,ts,h1,hT,hn,hH,e,hdT,h3⟩
 ·refine wpAny_bind (wpAny_field he hd h1 ?_)
  rw [if_neg (by decide)]
  exact wpAny_pure (h s.heap r id)
 ·refine wpAny_bind (wpAny_field he hd h1 ?_)
  rw [if_pos (show (Value.ref T != Value.none) = true from by simp)]
  exact r.setT he hd h1 hT hn hH e hdT h3 fun h' r' t'=>h h' r' fun _=>t'
theorem RX.leave (r:RX P w base fs env outer H0 s0 x C d H s) (hfr:A.frames = some (env :: outer))
  (h:∀ h',RX P w base fs env outer H0 s0 x C d H { s with heap:=h' }->Tb H s0.heap.objs.size x h'->Q () { s with heap:=h' }):wpAny M A (leaving env (.ref x)) Q E s:=by
 unfold leaving
 exact wpAny_bind (r.note hfr fun h' r' t'=>r'.flight fun h2 r2 t2=>h h2 r2 (t2 t'))
end
end
noncomputable def CXe (P:Program) (w:World):CXT:=fun outer H s E e s' =>
 ∃ x C d H',e = .ref x/\s'.os = s.os/\AllBare s'.gens/\Un (frs outer) [] H H' s.heap s'.heap/\HOk P w H' s'.heap/\H' x = some (XO x C d)/\s.heap.objs.size<=x/\Tb H' s.heap.objs.size x s'.heap/\E (.ref C) d H'
noncomputable def XE (X:Cx) (E:XK):Value->Shared->Prop:=fun e s'=>∃ x C d H',e = .ref x/\RX X.prog X.w X.base X.outer X.env X.outer X.H₀ X.s₀ x C d H' s'/\E (.ref C) d H'
end L2
namespace L2
open PySem PySem.Spec PyProof.Rows
section
variable {prog:Program} {w:World} {A:Around} {E:Value->Shared->Prop} {h:Heap} {g:Array GenState} {d:Drawn} {t:Nat} {os:OsState}
variable {nm q:Str} {C N:Addr} {bs bm bmB:List Value} {hdct:Bool} {sn:List Str} {sub:List Value} {ab:Bool} {col:Option Bool} {dd:Option Addr} {k0 k1 k2 k3 k5:Option Value} {B newId initId:String}
noncomputable abbrev exObj (C t:Addr):Obj:={ cls:=.ref C,data:=.fields #[.ref t,.none,.none,.none,.bool false,.none] }
noncomputable abbrev exHeap (h:Heap) (C:Addr) (rest:List Value):Heap:=(h.push { cls:=.type "tuple",data:=.seq rest.toArray }).push (exObj C h.objs.size)
end
noncomputable def XN (x C:Addr) (d:Option Addr):HO:=.ext fun h=>∃ vs sl,h.get? x = some ⟨.ref C,d,.fields vs,sl⟩/\vs[1]? = some .none
theorem XN.ok {P:Program} {w:World} {H:Hp} {h:Heap} {x C:Addr} {d:Option Addr} {vs:Array Value} {sl:Array (Option Value)} (e:h.get? x = some ⟨.ref C,d,.fields vs,sl⟩) (h1:vs[1]? = some .none):ObjOk P w H h x (XN x C d) :=
 ⟨⟨vs,sl,e,h1⟩,⟨_,e⟩,fun h1 h2 ⟨vs,sl,e,r⟩ k=>⟨vs,sl,k _ e,r⟩⟩
end L2
namespace L2
open PySem PySem.Spec PyProof.Rows
section
variable {M:Model} {A:Around} {E:Value->Shared->Prop} {env:Env}
variable {nm q:Str} {C N:Addr} {bs bm:List Value} {hdct:Bool} {sn:List Str} {sub:List Value} {ab:Bool} {col:Option Bool} {dd:Option Addr} {k0 k1 k2 k3 k5:Option Value} {newId:String}
theorem Nf {s:Shared} {x:Sem Value} {Q:Flow->Shared->Prop} (hbase:bm.contains (.type "BaseException") = true) (hh:A.handled = none)
  (h:wpAny M A x (fun v s₁=>∃ e dct vs sl,v = .ref e/\s₁.heap.get? C = some (excClassObj nm q C N bs bm hdct sn sub ab col dd k0 k1 k2 k3 k5 newId) /\
   s₁.heap.get? e = some ⟨.ref C,dct,.fields vs,sl⟩/\vs[1]? = some .none/\E (.ref e) s₁) E s) :
  wpAny M A (raiseStmt env (some x) none) Q E s:=by
 have hcB:(Value.ref C :: bm).contains (.type "BaseException") = true:=by rw [List.contains_cons,hbase,Bool.or_true]
 unfold raiseStmt
 refine wpAny_bind (wpAny_mono h (fun v s₁ h₁=>?_) fun _ _ x=>x)
 obtain ⟨e,dct,vs,sl,rfl,hC,he,h1,hE⟩:=h₁
 obtain ⟨hp,g,d,tk,os⟩:=s₁
 repeat (first | with_reducible refine wpAny_loadPart_at he ?_ | with_reducible refine wpAny_loadPart_at hC ?_ | (with_reducible refine wpAny_isSubtype_exc hC ?_; rw [hcB]) | with_reducible refine wpAny_field he rfl h1 ?_ | wp_step)
 exact wpAny_raiseNew_none hh hE
end
structure XC (K:PySem.W.Frag) (C:Addr) (bm:List Value):Prop where
 obj:∃ nm q N bs hdct sn sub ab col dd k0 k1 k2 k3 k5,K.lookup C = some (excClassObj nm q C N bs bm hdct sn sub ab col dd k0 k1 k2 k3 k5 "ValueError.__new__")
 tail:PySem.W.tailIn K [.type "ValueError",.type "Exception",.type "BaseException",.type "object"] bm = true
 kp:PySem.W.keepIn K (.ref C) = true
 sa:PySem.W.findIn K (.ref C) "__setattr__" = some (some (.builtin "object.__setattr__"))
 hd:PySem.W.hasDictIn K C = true
theorem XC.base {K:PySem.W.Frag} {C:Addr} {bm:List Value} (c:XC K C bm) {h:Heap} (X:K.In h):bm.contains (.type "BaseException") = true:=(PySem.W.tail_of_in X c.tail).hasType rfl
structure BX (X:Cx) (E:XK):Prop where
 xe:X.xe = XE X E
 st:X.stack = X.env :: X.outer
 fr:X.env.frame = some X.env.locals
 ex:X.ex = []
 calm:X.calm = true
section
variable {X:Cx} {pins:List (Addr × Obj)} {σ:St} {H:Hp} {s:Shared} {x C:Addr} {E:XK}
theorem Inv.rx {d:Option Addr} (I:Inv X pins σ H s) (b:BX X E) (hx:H x = some (XO x C d)) (nx:X.s₀.heap.objs.size<=x) (fl:Fl H X.s₀.heap.objs.size x s.heap):RX X.prog X.w X.base X.outer X.env X.outer X.H₀ X.s₀ x C d H s:=by
 refine ⟨I.os,I.bare,by have:=I.base; rw [b.ex] at this; exact this,I.hok,I.ok.bsz,I.bs,by have:=I.stack; rw [b.st] at this; exact this,by have:=I.stkFree; rw [b.st] at this; exact this,⟨_,b.fr⟩,fun c o e hc z=>?_,fun c hc=>?_,hx,nx,fl⟩
 ·unfold frs at z hc
  rw [List.filterMap_cons,b.fr] at z
  rcases List.mem_cons.mp z with q | q
  ·exact absurd (Heap.lt_size e) (by rw [q]; exact Nat.not_lt.mpr I.ok.above)
  ·exact hc q
 ·unfold frs at hc ⊢
  rw [List.filterMap_cons,b.fr]
  exact List.mem_cons_of_mem _ hc
theorem Tb.mono {n m:Nat} {h:Heap} (t:Tb H n x h) (k:m<=n):Tb H m x h:=by
 obtain ⟨o,vs,T,oT,ts,e,hd,h1,h2,h3,r⟩:=t
 exact ⟨o,vs,T,oT,ts,e,hd,h1,h2,Nat.le_trans k h3,r⟩
theorem BX.passes (b:BX X E):j8 (CXe X.prog X.w) X E:=by
 rintro pins σ H s e s' I ⟨x,C,d,H',rfl,os,bare,un,hok,hx,nx,tb,q⟩
 have I':=I.call' os un hok bare (fun b z=>absurd z (by simp))
 rw [b.xe]
 exact ⟨x,C,d,H',rfl,I'.rx b hx (Nat.le_trans I.sz nx) (tb.mono I.sz).fl,q⟩
end
section
variable {X:Cx} {C f:Addr} {fd:FuncData} {ps:List Str} {sp:Sp} {E:XK} {bm:List Value} {k:Nat} {n:Str} {p pos cpos:Pos} {e:Expr} {es:List Expr} {t:TA}
theorem BX.made {pins:List (Addr × Obj)} {σ:St} {H:Hp} {s:Shared} {x:Addr} {d:Option Addr} (b:BX X E) (I:Inv X pins σ H s) (hx:H x = some (XN x C d)) (nx:X.s₀.heap.objs.size<=x) (q:E (.ref C) d (upd H x (XO x C d))) :
  ∃ vs sl,s.heap.get? x = some ⟨.ref C,d,.fields vs,sl⟩/\vs[1]? = some .none/\X.xe (.ref x) s:=by
 obtain ⟨vs,sl,ex,h1⟩:∃ vs sl,s.heap.get? x = some ⟨.ref C,d,.fields vs,sl⟩/\vs[1]? = some .none:=(I.hok x _ hx).1
 refine ⟨vs,sl,ex,h1,?_⟩
 have I4:Inv X pins σ (upd H x (XO x C d)) s:=I.write (x:=x) (e:=x) (h':=s.heap) (t':=s.toks) (by rw [hx]; exact True.intro) (.inl rfl) (fun _ _ _ z=>z) ⟨_,ex⟩ (XO.ok ex rfl rfl rfl)
 rw [b.xe]
 exact ⟨x,C,d,_,rfl,I4.rx b A7 nx ⟨_,vs,ex,rfl,(Array.getElem?_eq_some_iff.mp h1).1,.inl h1⟩,q⟩
end
end L2
namespace L2
open PySem PySem.Spec PyProof.Rows
section
variable {P:Program} {w:World} {K:PySem.W.Frag} {mg:Str->Option Value} {base:Heap}
noncomputable abbrev cxE (P:Program) (w:World) (K:PySem.W.Frag) (mg:Str->Option Value) (base:Heap) (N:List Str) (qual:Str) (scope:Scope) (f:Addr) (cd:Value) (A:Around) (outer:List Env) (s:Shared) (H:Hp) (E:XK):Cx :=
 (Ty (CXe P w) P w K mg base N qual scope f cd A outer s H E).wish (XE (Ty (CXe P w) P w K mg base N qual scope f cd A outer s H E) E)
theorem cxE.bx {N:List Str} {qual:Str} {scope:Scope} {f:Addr} {cd:Value} {A:Around} {outer:List Env} {s:Shared} {H:Hp} {E:XK}:BX (cxE P w K mg base N qual scope f cd A outer s H E) E:=⟨rfl,rfl,rfl,rfl,rfl⟩
theorem PSs.wishI {X:Cx} {E:Value->Shared->Prop} {st:List Stmt} {t:TS} (k:X.A.frames = some X.stack->∀ e s,E e s->X.xe e s) (h:PSs (X.wish E) st t):PSs X st t:=fun pins s σ H D I hw =>
 wpAny_mono (h pins s σ H D (I.wish _) hw) (fun _ _ q=>q.unwish) (k I.ok.frames)
theorem Fun.okE {x qual:Str} {st:Stmt} {f:Addr} {fd:FuncData} {N ps:List Str} {k:Nat} {sp:Sp} (F:Fun K x qual st f fd) (S:FnScope N ps (B5 st)) (len:∀ vs H Q E,sp vs H Q E->vs.length = ps.length)
  (hbody:∀ (cdv:Value) (A:Around) (outer:List Env) (s:Shared) (H:Hp) (vs:List V) (Q:VK) (E:XK),Room k (A.deeper (envOfC qual (B5 st) s.heap.objs.size f cdv))->sp vs H Q E ->
   ∃ t,PSs (cxE P w K mg base N qual (B5 st) f cdv A outer s H E) (M9 st) t/\t { nx:=fun _ H'=>Q .non H',rt:=Q } (Df N vs) H):FnOk P w K mg base (CXe P w) (k + 1) f fd ps sp:=by
 obtain ⟨oc,od,kV,doc,pm,an,cdv,ct,osl,rfl,lk,hcd⟩:=F.ex
 refine Xp lk hcd S len fun A outer s H vs Q E hr hsp=>?_
 obtain ⟨t,h,q⟩:=hbody cdv A outer s H vs Q E hr hsp
 refine ⟨t,h.wishI fun hf e s' z=>?_,q⟩
 obtain ⟨x,C,d,H',rfl,r,q⟩:=z
 exact RX.leave r hf fun h' r' t'=>⟨x,C,d,H',rfl,r'.os,r'.bare,r'.un,r'.hok,r'.hx,r'.nx,t',q⟩
end
noncomputable def PEx (X:Cx) (e:Expr) (t:XK->TE):Prop:=∀ (pins:List (Addr × Obj)) (s:Shared) (σ:St) (H:Hp) (Q:VK) (E:XK),Inv X pins σ H s->t E σ H Q ->
 wpAny (model X.prog X.w) X.A (eval e X.env) (EP X pins σ Q) (fun ev s'=>∃ s1 H1,Inv X pins σ H1 s1/\CXe X.prog X.w X.stack H1 s1 E ev s') s
section
variable {X:Cx} {k:Nat} {f C:Addr} {fd:FuncData} {ps:List Str} {sp:Sp} {x m:Str} {p pos apos:Pos} {e o:Expr} {es:List Expr} {ta:TE} {t:TA}
theorem Qd {pins:List (Addr × Obj)} {σ:St} {H:Hp} {s:Shared} {Q:VK} {E:XK} {us:List Value} {vs:List V} (M:Mk X.K C f) (F:FnOk X.prog X.w X.K X.mg X.base (CXe X.prog X.w) k f fd ps sp) (hr:Room (k + 1) X.A) (hb:Binds X.K fd ps []) (I:Inv X pins σ H s) (r:Vals vs us)
  (h:∀ x dx,H x = none->H dx = none->dx ≠ x->sp (.ref x :: vs) (upd (upd H dx (.own x)) x (.ins C dx [])) (fun v H2=>v = .non/\Q (.ref x) H2) E) :
  wpAny (model X.prog X.w) X.A (call (.ref C) us) (EP X pins σ Q) (fun ev s'=>∃ s1 H1,Inv X pins σ H1 s1/\CXe X.prog X.w X.stack H1 s1 E ev s') s:=by
 have hq:=h (s.heap.objs.size + 1) s.heap.objs.size (I.hok.fresh (Nat.le_succ _)) (I.hok.fresh (Nat.le_refl _)) (Nat.ne_of_lt (Nat.lt_succ_self _))
 have I2:=Inv.made (C:=C) I
 have r2:Vals (V.ref (s.heap.objs.size + 1) :: vs) (Value.ref (s.heap.objs.size + 1) :: us):=.cons rfl r
 have hl:(Value.ref (s.heap.objs.size + 1) :: us).length = ps.length:=by
  have e:=r2.length
  rw [F.len _ _ _ _ hq] at e
  exact e.symm
 have bd:=hb { s with heap:=(s.heap.push PySem.W.emptyDict).push (PySem.W.instObj C s.heap.objs.size) } (Value.ref (s.heap.objs.size + 1) :: us) I2.kIn (by rw [List.append_nil]; exact hl)
 rw [List.append_nil] at bd
 refine wpAny_call (Jd (f:=f) I.kIn M.makes M.init (beq_iff_eq.mp M.fn) (codeAny_mono (F.run _ X.stack _ _ ⟨Value.ref (s.heap.objs.size + 1) :: us,[]⟩ (Value.ref (s.heap.objs.size + 1) :: us) _ _ E (hr.make C us [])
  (I2.env0.make C us []) bd r2 hq) fun r s' hq'=>?_))
 cases r with
 | error e=>exact ⟨_,_,I2,hq'⟩
 | ok fl =>
  cases fl with
  | ret u =>
   obtain ⟨v,H',I3,rv,ev,q3⟩:=I2.after hq'
   subst ev
   exact ⟨rv,⟨V.ref (s.heap.objs.size + 1),H',I3,rfl,q3⟩⟩
  | next=>exact False.elim hq'
  | brk=>exact False.elim hq'
  | cont=>exact False.elim hq'
theorem Sr (nox:∀ e s,¬ X.xe e s) (M:Mk X.K C f) (F:FnOk X.prog X.w X.K X.mg X.base (CXe X.prog X.w) k f fd ps sp) (hr:Room (k + 1) X.A) (hg:Gl X x) (hm:X.mg x = some (.ref C)) (hb:Binds X.K fd ps [])
  (ha:PA X (e :: es) t) (hdb:(x == ("__debug__":Str)) = false:=by decide) (he:starEach (e :: es) X.env = (false,eval e X.env) :: starEach es X.env:=by rfl) (hpl:(backTo pos (starEach es X.env)).any (·.1) = false:=by rfl) :
  PEx X (.Call (.Name x p) (e :: es) [] pos) (fun E=>Wu C sp [] E t):=by
 intro pins s σ H Q E I h
 refine wpAny_Call_Name_kw (a7 I hg hm ?_ hdb)
 refine PySem.W.callWith_K (h₀:=X.base) I.ok.mod.kin M.kp (wpAny_mono (ha pos pins s σ H _ I h) (fun us s1 ⟨vs,H1,I1,r,q⟩=>⟨I1.kIn,?_⟩) fun _ _ z=>(nox _ _ z).elim) he hpl
 exact Qd M F hr hb I1 r fun y dx h1 h2 h3=>by
  have:=q y dx h1 h2 h3
  rwa [List.append_nil] at this
end
section
variable {X:Cx} {pins:List (Addr × Obj)} {σ:St} {H:Hp} {s:Shared}
theorem X9 {M:Model} {A:Around} {E:Value->Shared->Prop} {i:Nat} {x:Str} {pos:Pos} {Q:Unit->Shared->Prop} (I:Inv X pins σ H s) (hN:X.N.Nodup) (hi:X.N[i]? = some x) (hx:X.env.scope.names.lookup x = some .local)
  (h:∀ s',Inv X pins (σ.set i none) H s'->Q () s'):wpAny M A (do bindName X.env x .none; unbindBehindTheSuite X.env x pos) Q E s:=by
 obtain ⟨m,hn,hl⟩:=id I.loc
 have hcls:(X.env.scope.kind == .class || (X.env.scope.kind == .module && X.env.locals != X.env.globals)) = false:=by rw [I.ok.kind]; rfl
 have cne:=I.cne
 refine wpAny_nameGoes_keeps hx hn hcls fun h' v hn' hs=>?_
 obtain ⟨oL,_,_,hoL,_⟩:=id hn
 have nL:∀ b o,X.s₀.heap.get? b = some o->b ≠ X.env.locals:=fun b o e=>Nat.ne_of_lt (Nat.lt_of_lt_of_le (Heap.lt_size e) I.ok.above)
 have tracked:HOk X.prog X.w H h':=fun b ob e=>by
  refine (I.hok b ob e).stay (fun c w' hc q=>(hs.2 c ?_).trans q) (fun _ q=>q) fun _ _ q=>q
  rintro rfl
  rcases hc with rfl | hc
  ·rw [I.free] at e; cases e
  ·rw [I.free] at hc; cases hc
 refine h _ ⟨I.ok,I.os,I.bare,⟨fun b o e n hb hx=>?_,fun b o e n hb hx=>?_,I.base.free,fun b o e hx=>?_,I.base.tups,I.base.frzs,I.base.tbls⟩,⟨_,hn',fun j y v' e1 e2 e3=>?_⟩,fun y c e=>?_,I.free,I.freeC,fun p hp=>?_,tracked,by simpa using I.len⟩
 ·exact (hs.2 b (nL b o e)).trans (I.base.keep b o e n hb hx)
 ·obtain ⟨sl,e1⟩:=I.base.slot b o e n hb hx
  exact ⟨sl,(hs.2 b (nL b o e)).trans e1⟩
 ·obtain ⟨o',e1⟩:=I.base.there b o e hx
  exact ⟨o',(hs.2 b (nL b o e)).trans e1⟩
 ·have hj:j ≠ i:=fun z=>by
   rw [z,List.getElem?_set] at e2
   split at e2
   ·split at e2 <;> cases e2
   ·rename_i q; exact q rfl
  rw [List.getElem?_set_ne (Ne.symm hj)] at e2
  obtain ⟨u',r',q⟩:=hl j y v' e1 e2 e3
  refine ⟨u',r',?_⟩
  rcases q with ⟨k,e⟩ | ⟨k,c,e,z⟩
  ·refine .inl ⟨k,?_⟩
   have:y ≠ x:=fun e=>hj (Dm hN e1 (e ▸ hi))
   simp [this,e]
  ·exact .inr ⟨k,c,e,z.sameBut hs (cne y c e)⟩
 ·obtain ⟨w',z⟩:=I.cell y c e
  exact ⟨w',z.sameBut hs (cne y c e)⟩
 ·obtain ⟨e,n,ne,nf,d⟩:=I.pin p hp
  exact ⟨(hs.2 p.1 ne).trans e,n,ne,nf,d⟩
end
end L2
namespace L2
open PySem PySem.Spec PyProof.Rows
section
variable {M:Model} {A:Around} {E:Value->Shared->Prop} {h:Heap} {g:Array GenState} {dn:Drawn} {tk:Nat} {os:OsState}
variable {nm q nm' q':Str} {C N S N':Addr} {bs bm bs' bm':List Value} {hdct hdct':Bool} {sn sn':List Str} {sub sub':List Value} {ab ab':Bool} {col col':Option Bool} {dd dd':Option Addr} {k0 k1 k2 k3 k5 j0 j1 j2 j3 j5:Option Value} {newId newId':String}
theorem zCi {e:Addr} {oe:Obj} {Q:Bool->Shared->Prop} (hC:h.get? C = some (excClassObj nm q C N bs bm hdct sn sub ab col dd k0 k1 k2 k3 k5 newId)) (hS:h.get? S = some (excClassObj nm' q' S N' bs' bm' hdct' sn' sub' ab' col' dd' j0 j1 j2 j3 j5 newId')) (he:h.get? e = some oe) (hcls:oe.cls = .ref C)
  (hb:bm'.contains (.type "BaseException") = true) (hc:(Value.ref C :: bm).contains (.ref S) = true) (hq:Q true ⟨h,g,dn,tk,os⟩):wpAny M A (excMatches (.ref e) (.ref S)) Q E ⟨h,g,dn,tk,os⟩:=by
 have hcB:(Value.ref S :: bm').contains (.type "BaseException") = true:=by rw [List.contains_cons,hb,Bool.or_true]
 have f:=tc_notTuple
 unfold excMatches
 repeat (first | (with_reducible refine wpAny_loadPart_at he ?_; rw [hcls]) | with_reducible refine wpAny_loadPart_at hS ?_ | with_reducible refine wpAny_loadPart_at hC ?_ | (with_reducible refine wpAny_isSubtype_exc hS ?_; rw [hcB]) | (with_reducible refine wpAny_isSubtype_exc hC ?_; rw [hc]) | wp_step)
 exact hq
end
noncomputable abbrev Xm (X:Cx) (ev:Value):Cx:={ X with A:=X.A.mark (some ev),calm:=false }
section
variable {X:Cx} {pins:List (Addr × Obj)} {σ:St} {H:Hp} {s:Shared} {ev:Value}
theorem Inv.mark (I:Inv X pins σ H s) (ev:Value):Inv (Xm X ev) pins σ H s :=
 ⟨⟨I.ok.mod,I.ok.kind,I.ok.glob,I.ok.blt,I.ok.above,I.ok.inj,I.ok.has,I.ok.cab,fun z=>absurd z (by simp),I.ok.frames,I.ok.stk,I.ok.exf,I.ok.bs,I.ok.bsz,I.ok.noex,I.ok.exfs,I.ok.funs,I.ok.frf⟩,I.os,I.bare,I.base,I.loc,I.cell,I.free,I.freeC,I.pin,I.hok,I.len⟩
theorem Inv.unmark (ok:X.Ok) (I:Inv (Xm X ev) pins σ H s):Inv X pins σ H s:=⟨ok,I.os,I.bare,I.base,I.loc,I.cell,I.free,I.freeC,I.pin,I.hok,I.len⟩
end
noncomputable def Dh (i:Nat) (D:Ends):Ends:={ nx:=fun σ H=>D.nx (σ.set i none) H,rt:=D.rt,bk:=fun σ H=>D.bk (σ.set i none) H,ct:=fun σ H=>D.ct (σ.set i none) H }
noncomputable def zCl (K:PySem.W.Frag) (S:Addr) (i:Nat) (t:XK->TE) (th:TS):TS:=fun D σ H =>
 t (fun Cv d H'=>∃ C bm,Cv = .ref C/\XC K C bm/\(Value.ref C :: bm).contains (.ref S) = true/\∀ x,H' x = some (XO x C d)->th (Dh i D) (σ.set i (some (.ref x))) H') σ H fun _ H1=>D.nx σ H1
theorem Yd {X:Cx} {S:Addr} {bmS:List Value} {i:Nat} {n c:Str} {e:Expr} {p1 cp hp pos:Pos} {b₀:Stmt} {body:List Stmt} {t:XK->TE} {th:TS} (nox:∀ e s,¬ X.xe e s) (st:X.stack = X.env :: X.outer) (fr:X.env.frame = some X.env.locals) (hN:X.N.Nodup) (hi:X.N[i]? = some n) (hloc:X.env.scope.names.lookup n = some .local)
  (hg:Gl X c) (hm:X.mg c = some (.ref S)) (cS:XC X.K S bmS) (he:PEx X e t) (hh:∀ ev,PSs (Xm X ev) (b₀ :: body) th) (hs:swapsWith e none p1.line X.env = pure false:=by rfl) (hdb:(c == ("__debug__":Str)) = false:=by decide) :
  PS X (.Try [.Expr e p1] [.ExceptHandler (some (.Name c cp)) (some n) (b₀ :: body) hp] [] [] pos) (zCl X.K S i t th):=by
 intro pins s σ H D I h
 refine wpAny_Try_except ?_
 refine wpAny_execs_cons (wpAny_Expr_any (wpAny_mono (he pins s σ H _ _ I h) (fun v s1 ⟨y,H1,I1,r,q⟩=>?_) fun ev s' z=>?_) I.quiet hs)
 ·exact wpAny_execs_nil (wpAny_execs_nil ⟨σ,H1,I1,q⟩)
 obtain ⟨s1,H1,I1,x,C,d,H',rfl,os,bare,un,hok,hx,nx,tb,C',bm,ec,cC,hcon,q⟩:=z
 cases ec
 have I2:Inv X pins σ H' s':=I1.call' os un hok bare (fun b z=>absurd z (by simp))
 have r:RX X.prog X.w X.base X.stack X.env X.outer H1 s1 x C d H' s':=⟨os,bare,un,hok,Nat.le_trans I1.ok.bsz I1.sz,I2.bs,by have:=I2.stack; rw [st] at this; exact this,by have:=I2.stkFree; rw [st] at this; exact this,⟨_,fr⟩,fun b o _ hb=>by rw [st] at hb; exact hb,fun b hb=>by rw [st] at hb; exact hb,hx,nx,tb.fl⟩
 have hfr:X.A.frames = some (X.env :: X.outer):=by rw [I.ok.frames,st]
 refine r.note hfr fun h' r' t'=>r'.flight fun h2 r2 _=>?_
 have I3:Inv X pins σ H' { s' with heap:=h2 }:=I1.call' r2.os r2.un r2.hok r2.bare (fun b z=>absurd z (by simp))
 refine wpAny_handleBy_cons (codeAny_handlers_test ?_) (by intro q; cases q)
 refine a7 (I3.mark (.ref x)) hg hm ?_ hdb
 obtain ⟨nm,q1,N,bs,hdct,sn,sub,ab,col,dd,k0,k1,k2,k3,k5,hobj⟩:=cC.obj
 obtain ⟨nm',q1',N',bs',hdct',sn',sub',ab',col',dd',j0,j1,j2,j3,j5,hobj'⟩:=cS.obj
 obtain ⟨ox,vx,ex,hcx,_⟩:∃ o vs,h2.get? x = some o/\o.cls = .ref C/\o.dict = d/\o.data = .fields vs:=(r2.hok x _ r2.hx).1
 refine zCi (I3.kIn _ _ hobj) (I3.kIn _ _ hobj') ex hcx (cS.base I3.kIn) hcon ?_
 refine codeAny_handlers_suite_as (r2.flight fun h4 r4 _=>?_)
 have I4:Inv X pins σ H' { s' with heap:=h4 }:=I1.call' r4.os r4.un r4.hok r4.bare (fun b z=>absurd z (by simp))
 refine Dl I4 hN hi (.inl hloc) (v:=.ref x) rfl (fun s5 I5=>?_) (.inr hloc)
 refine wpAny_mono (hh (.ref x) pins s5 _ H' (Dh i D) (I5.mark _) (q x hx)) (fun f s6 z=>?_) fun _ _ z=>(nox _ _ z).elim
 cases f with
 | next =>
  obtain ⟨σ',H6,I6,q6⟩:=z
  exact X9 (I6.unmark I.ok) hN hi hloc fun s7 I7=>⟨_,_,I7,q6⟩
 | brk =>
  obtain ⟨σ',H6,I6,q6⟩:=z
  exact X9 (I6.unmark I.ok) hN hi hloc fun s7 I7=>⟨_,_,I7,q6⟩
 | cont =>
  obtain ⟨σ',H6,I6,q6⟩:=z
  exact X9 (I6.unmark I.ok) hN hi hloc fun s7 I7=>⟨_,_,I7,q6⟩
 | ret u =>
  obtain ⟨v,σ',H6,I6,r6,q6⟩:=z
  exact X9 (I6.unmark I.ok) hN hi hloc fun s7 I7=>⟨v,_,_,I7,r6,q6⟩
end L2
namespace L2
open PySem PySem.Spec PyProof.Rows
structure XG (K:PySem.W.Frag) (C:Addr):Prop where
 ga:PySem.W.findIn K (.ref C) "__getattribute__" = some (some (.builtin "BaseException.__getattribute__"))
 gn:PySem.W.findIn K (.ref C) "__getattr__" = some none
 mb:PySem.W.mroIn K C (.type "BaseException") = some true
 hd:PySem.W.hasDictIn K C = true
section
variable {prog:Program} {w:World} {A:Around} {E:Value->Shared->Prop} {s:Shared} {K:PySem.W.Frag} {x C:Addr} {ox:Obj} {od:Option Obj} {name:Str}
theorem Pn {M:Model} {nameV:Value} {Q:Unit->Shared->Prop} (X:K.In s.heap) (I:PySem.W.InstAt s.heap x ox C od) (c:XG K C) (hq:Q () s):wpAny M A (checkBuiltinCall "BaseException.__getattribute__" ⟨[.ref x,nameV],[]⟩) Q E s:=by
 have hk:builtinKind "BaseException.__getattribute__" = some .slot:=by decide +kernel
 have hsplit:splitId "BaseException.__getattribute__" = some ("BaseException", "__getattribute__"):=by decide +kernel
 have ha:=PySem.F.args_bexc_ga (.ref x) nameV
 have L0:=I.type (M:=M)
 have L1:=PySem.W.looks_mroIn (M:=M) X c.mb
 obtain ⟨h,g,d,t,os⟩:=s
 simp only [checkBuiltinCall,hk,hsplit]
 refine wpAny_bind ?_
 unfold isInstance
 refine wpAny_bind (L0.at (L1.at ?_))
 repeat (any_goals (first | assumption | wp_step))
theorem Mz {tk:Tok} {R:Result->Shared->Prop} (X:K.In s.heap) (I:PySem.W.InstAt s.heap x ox C od) (c:XG K C)
  (h:wpAny (model prog w) A.in1 (Builtin.«object.__getattribute__» ⟨[.ref x,.str name tk],[]⟩) (fun fin s'=>match fin with | .done f=>R (.ok f) s' | .again c'=>c'.quiet = true/\codeAny (model prog w) A c' R s') (fun e s'=>R (.error e) s') s) :
  codeAny (model prog w) A (.call (.builtin "BaseException.__getattribute__") ⟨[.ref x,.str name tk],[]⟩) R s :=
 codeAny_call_builtin PySem.F.attrBase_ValueError.ga.plain PySem.F.entry_bexc_ga (Pn X I c h)
theorem Wg {tk:Tok} {fill expr:Bool} {Q:Value->Shared->Prop} (X:K.In s.heap) (I:PySem.W.InstAt s.heap x ox C od) (c:XG K C)
  (h:codeAny (model prog w) A (.call (.builtin "BaseException.__getattribute__") ⟨[.ref x,.str name tk],[]⟩) (fun r s'=>match r with | .ok (.ret v)=>wpAny (model prog w) A (handedOut v) Q E s' | _=>False) s) :
  wpAny (model prog w) A (getAttrBy (.ref x) (.str name tk) fill expr) Q E s:=by
 have L0:=I.type (M:=model prog w)
 have L1:=PySem.W.looks_findIn (M:=model prog w) X c.ga
 have L2:=PySem.W.looks_findIn (M:=model prog w) X c.gn
 have f3:=PySem.F.attrBase_ValueError.ga.bind (.ref x)
 have hx0:(expr && onTheHeap (Value.builtin "BaseException.__getattribute__")) = false:=by cases expr <;> rfl
 obtain ⟨hh,g,d,t,os⟩:=s
 unfold getAttrBy
 refine wpAny_holding (wpAny_bind (L0.at (wpAny_bind (L1.at ?_))))
 show wpAny _ _ (getAttrByItsOwn _ _ _ _ _ _) _ _ _
 unfold getAttrByItsOwn
 refine wpAny_bind ?_
 unfold hookBefore
 rw [if_pos (show onTheHeap (Value.ref C) = true from rfl)]
 refine L2.at ?_
 unfold callGetattribute
 rw [hx0,if_neg (by decide)]
 unfold boundAndCalled
 refine wpAny_bind (wpAny_attempt (wpAny_holding ?_))
 rw [f3]
 refine wpAny_bind (wpAny_pure ?_)
 refine wpAny_call (codeAny_mono h fun r s' z=>?_)
 cases r with
 | error e=>exact False.elim z
 | ok f =>
  cases f with
  | ret v=>exact z
  | next=>exact False.elim z
  | brk=>exact False.elim z
  | cont=>exact False.elim z
end
theorem Jt:∀ {cs:List Addr} {us:List Value},Vals (cs.map V.ref) us->us = cs.map Value.ref
 | [],_,.nil=>rfl
 | _ :: _,_,.cons r t=>by rw [List.map_cons,Jt t]; cases r; rfl
theorem xc_mk {K:PySem.W.Frag} {nm q:Str} {C N:Addr} {bs bm:List Value} {hdct:Bool} {sn:List Str} {sub:List Value} {ab:Bool} {col:Option Bool} {dd:Option Addr} {k0 k1 k2 k3 k5:Option Value}
  (l:K.lookup C = some (excClassObj nm q C N bs bm hdct sn sub ab col dd k0 k1 k2 k3 k5 "ValueError.__new__")) (t:PySem.W.tailIn K [.type "ValueError",.type "Exception",.type "BaseException",.type "object"] bm = true) (k:PySem.W.keepIn K (.ref C) = true)
  (s:PySem.W.findIn K (.ref C) "__setattr__" = some (some (.builtin "object.__setattr__"))) (d:PySem.W.hasDictIn K C = true):XC K C bm:=⟨⟨_,_,_,_,_,_,_,_,_,_,_,_,_,_,_,l⟩,t,k,s,d⟩
end L2
namespace L2
open PySem PySem.Spec PyProof.Rows
section
variable {X:Cx} {E:XK}
theorem Ck:bootBuiltins "ValueError" = some (.type "ValueError"):=by decide +kernel
end
end L2
namespace L2
open PySem PySem.Spec PyProof.Rows
section
variable {prog:Program} {w:World} {A:Around} {E:Value->Shared->Prop} {h:Heap} {g:Array GenState} {d:Drawn} {t:Nat} {os:OsState}
variable {nm q:Str} {C N:Addr} {bs bm bmB:List Value} {hdct:Bool} {sn:List Str} {sub:List Value} {ab:Bool} {col:Option Bool} {dd:Option Addr} {k0 k1 k2 k3 k5:Option Value} {B newId initId:String}
theorem Qa {K:PySem.W.Frag} {rest:List Value} {Q:Fin->Shared->Prop} (F:ExcBaseFacts B newId initId bmB) (T:OwnTail h bmB bm) (X:K.In h)
  (hC:h.get? C = some (excClassObj nm q C N bs bm hdct sn sub ab col dd k0 k1 k2 k3 k5 newId)) (hi:PySem.W.findIn K (.ref C) "__init__" = some (some (.builtin initId)))
  (hrest:rest.length<=sizeLine) (hq:∀ h',(∀ b o,h.get? b = some o->h'.get? b = some o)->(∃ tt,h'.get? (h.objs.size + 1) = some { cls:=.ref C,data:=.fields #[.ref tt,.none,.none,.none,.bool false,.none] })->Q (.done (.ret (.ref (h.objs.size + 1)))) ⟨h',g,d,t,os⟩) :
  wpAny (model prog w) A (Builtin.«type.__call__» ⟨.ref C :: rest,[]⟩) Q E ⟨h,g,d,t,os⟩:=by
 have kp:∀ b o,h.get? b = some o->(exHeap h C rest).get? b = some o:=fun b o e=>Heap.get?_push_of_some _ (Heap.get?_push_of_some _ e)
 have hC₁:(exHeap h C rest).get? C = some (excClassObj nm q C N bs bm hdct sn sub ab col dd k0 k1 k2 k3 k5 newId):=kp _ _ hC
 have hget:(exHeap h C rest).get? (h.objs.size + 1) = some (exObj C h.objs.size):=by unfold exHeap; heap_get
 have hcC:(Value.ref C :: bm).contains (.ref C) = true:=by simp
 have X₁:K.In (exHeap h C rest):=X.keeps kp
 have T₁:=T.keeps kp
 repeat (first | with_reducible refine wpAny_loadPart_at hC ?_ | with_reducible refine wpAny_madeBy_exc hC ?_ | wp_step)
 refine codeAny_call_builtin_code (Code.quiet_builtin _ F.quiet) (wpAny_check_new_subT F T hC (codeAny_exc_new_subT F T hC ?_ hrest))
 show wpAny _ _ _ _ _ ⟨exHeap h C rest,g,d,t,os⟩
 have hM:∀ h2,(∀ b o,(exHeap h C rest).get? b = some o->b ≠ h.objs.size + 1->h2.get? b = some o)->(∃ tt,h2.get? (h.objs.size + 1) = some { cls:=.ref C,data:=.fields #[.ref tt,.none,.none,.none,.bool false,.none] }) ->
   Q (.done (.ret (.ref (h.objs.size + 1)))) ⟨h2,g,d,t,os⟩:=fun h2 k th=>hq h2 (fun b o e=>k b o (kp b o e) (fun z=>by rw [z] at e; exact absurd (Heap.lt_size e) (Nat.not_lt.mpr (Nat.le_succ _)))) th
 have hsz:(exHeap h C rest).objs.size = h.objs.size + 2:=by unfold exHeap; simp only [Heap.size_push]
 generalize exHeap h C rest = h1 at hC₁ hget X₁ T₁ hM hsz ⊢
 unfold isInstance
 repeat (first | with_reducible refine wpAny_loadPart_at hget ?_ | (with_reducible refine wpAny_isSubtype_exc hC₁ ?_; rw [hcC]) | wp_step)
 show wpAny _ _ (typeLookup (.ref C) _) _ _ _
 refine PySem.W.Looks.here (s:=⟨h1,g,d,t,os⟩) (PySem.W.looks_findIn X₁ hi) ?_
 refine wpAny_holding (wpAny_bind (wpAny_of_eq (F.init.bind _) ?_))
 refine wpAny_bind (wpAny_call (codeAny_call_builtin F.init.plain F.initEntry (wpAny_check_init_subT F T₁ hC₁ hget rfl ?_)))
 wp_walk
 refine hM _ (fun b o e hb=>?_) ⟨h.objs.size + 2,?_⟩
 ·rw [Heap.get?_update_other _ _ (Ne.symm hb)]
  exact Heap.get?_push_of_some _ e
 ·rw [Heap.get?_update_self _ (Heap.get?_push_of_some _ hget) rfl,hsz]
  rfl
theorem Ng {K:PySem.W.Frag} {rest:List Value} {Q:Value->Shared->Prop} (F:ExcBaseFacts B newId initId bmB) (T:OwnTail h bmB bm) (X:K.In h)
  (hC:h.get? C = some (excClassObj nm q C N bs bm hdct sn sub ab col dd k0 k1 k2 k3 k5 newId)) (hi:PySem.W.findIn K (.ref C) "__init__" = some (some (.builtin initId)))
  (hrest:rest.length<=sizeLine) (hq:∀ h',(∀ b o,h.get? b = some o->h'.get? b = some o)->(∃ tt,h'.get? (h.objs.size + 1) = some { cls:=.ref C,data:=.fields #[.ref tt,.none,.none,.none,.bool false,.none] })->Q (.ref (h.objs.size + 1)) ⟨h',g,d,t,os⟩) :
  wpAny (model prog w) A (call (.ref C) rest) Q E ⟨h,g,d,t,os⟩:=by
 have f1:=tc_lookup
 have f2:=tc_bind (.ref C)
 have hT:(⟨h,g,d,t,os⟩:Shared).TypeIs (.ref C) "type":=⟨_,hC,rfl⟩
 refine wpAny_call (codeAny_of_tree ?_)
 show wpAny _ _ (callAny (.ref C) _) _ _ _
 repeat (any_goals (first | assumption | with_reducible refine wpAny_loadPart_at hC ?_ | wp_step))
 refine ⟨rfl,?_⟩
 exact codeAny_call_builtin_at (Code.quiet_builtin _ (by decide +kernel)) entry_typeCall (wpAny_check_type_call_sub hC (Qa F T X hC hi hrest hq))
end
noncomputable def Ug (K:PySem.W.Frag) (C:Addr):Prop:=PySem.W.findIn K (.ref C) "__init__" = some (some (.builtin "ValueError.__init__"))
section
variable {X:Cx} {pins:List (Addr × Obj)} {σ:St} {H:Hp} {s:Shared} {C:Addr} {bm:List Value} {E:Value->Shared->Prop}
theorem Ql {us:List Value} {Q:Value->Shared->Prop} (c:XC X.K C bm) (ni:Ug X.K C) (I:Inv X pins σ H s) (hus:us.length<=sizeLine) (h:∀ x s',H x = none->X.s₀.heap.objs.size<=x->Inv X pins σ (upd H x (XN x C none)) s'->Q (.ref x) s') :
  wpAny (model X.prog X.w) X.A (call (.ref C) us) Q E s:=by
 obtain ⟨nm,q,N,bs,hdct,sn,sub,ab,col,dd,k0,k1,k2,k3,k5,hobj⟩:=c.obj
 have sz:=I.sz
 obtain ⟨hp,g,dn,tk,os⟩:=s
 refine Ng PySem.F.excBase_ValueError (PySem.W.tail_of_in I.kIn c.tail) I.kIn (I.kIn _ _ hobj) ni hus fun h' kp ⟨tt,he⟩=>?_
 exact h _ _ (I.hok.fresh (Nat.le_succ _)) (Nat.le_trans sz (Nat.le_succ _)) (I.laid (t':=tk) kp (Nat.le_succ _) (XN.ok he rfl))
end
end L2
namespace L2
open PySem PySem.Spec PyProof.Rows
noncomputable def Wk (C:Addr) (E:XK) (t:TA):TS:=fun _ σ H=>t σ H fun vs H1=>vs.length<=sizeLine/\∀ x,H1 x = none->E (.ref C) none (upd H1 x (XO x C none))
section
variable {X:Cx} {C f:Addr} {fd:FuncData} {ps:List Str} {sp:Sp} {E:XK} {bm:List Value} {k:Nat} {n:Str} {p pos cpos:Pos} {e:Expr} {es:List Expr} {t:TA}
theorem Po (b:BX X E) (c:XC X.K C bm) (ni:Ug X.K C) (hg:Gl X n) (hm:X.mg n = some (.ref C)) (ha:PA X (e :: es) t)
  (hdb:(n == ("__debug__":Str)) = false:=by decide) (he:starEach (e :: es) X.env = (false,eval e X.env) :: starEach es X.env:=by rfl) (hpl:(backTo cpos (starEach es X.env)).any (·.1) = false:=by rfl) :
  PS X (.Raise (some (.Call (.Name n p) (e :: es) [] cpos)) none pos) (Wk C E t):=by
 intro pins s σ H D I h
 obtain ⟨nm,q,N,bs,hdct,sn,sub,ab,col,dd,k0,k1,k2,k3,k5,hobj⟩:=c.obj
 have hh:X.A.handled = none:=I.ok.hd b.calm
 rw [arm_exec_Raise]
 refine wpAny_bind (wpAny_standAt (Nf (C:=C) (nm:=nm) (q:=q) (N:=N) (bs:=bs) (bm:=bm) (hdct:=hdct) (sn:=sn) (sub:=sub) (ab:=ab) (col:=col) (dd:=dd) (k0:=k0) (k1:=k1) (k2:=k2) (k3:=k3) (k5:=k5) (newId := "ValueError.__new__") (c.base I.kIn) hh (wpAny_bind (wpAny_mono ?_ (fun v s₃ h₃=>wpAny_bind (wpAny_standAt (wpAny_pure h₃))) fun _ _ x=>x))))
 refine wpAny_Call_Name_kw (a7 I hg hm ?_ hdb)
 refine PySem.W.callWith_K (h₀:=X.base) I.ok.mod.kin c.kp (thn (ha cpos pins s σ H _ I h) fun us s1 ⟨vs,H1,I1,r,hl,q⟩=>⟨I1.kIn,?_⟩) he hpl
 refine Ql (us:=us) c ni I1 (by rw [<-r.length]; exact hl) fun x s2 hx nx I2=>?_
 obtain ⟨vs',sl,ex,h1,z⟩:=b.made (d:=none) I2 A7 nx (by rw [r8]; exact q x hx)
 exact ⟨_,none,vs',sl,rfl,I2.kIn _ _ hobj,ex,h1,z⟩
end
section
variable {prog:Program} {w:World} {A:Around} {E:Value->Shared->Prop} {s:Shared} {K:PySem.W.Frag} {x C:Addr} {ox:Obj} {od:Option Obj}
theorem Hu {Q:Option Value->Shared->Prop} (X:K.In s.heap) (I:PySem.W.InstAt s.heap x ox C od) (c:XG K C) (i:IsC K C) (h:Q (some (.ref C)) { s with toks:=s.toks + 1 }):wpAny (model prog w) A (getAttr? (.ref x) "__class__") Q E s:=by
 have hf:PySem.W.findObj K C od "__class__" = some (.bind (.builtin "getset_descriptor.__get__") (.builtin "object.__class__")):=by
  obtain ⟨cd,hc,_⟩:=PySem.W.any_some c.hd
  unfold PySem.W.findObj
  rw [hc,Option.bind_some,i.ha,Option.bind_some]
  simp [i.hn,i.htk]
 unfold getAttr? getAttrBy?
 refine wpAny_bind (wpAny_mkText (wpAny_bind (wpAny_attempt (Wg (s:={ s with toks:=s.toks + 1 }) X I c (Mz (s:={ s with toks:=s.toks + 1 }) X I c ?_)))))
 have L0:=I.type (M:=model prog w)
 have L1:=PySem.W.looks_find (M:=model prog w) X I hf
 obtain ⟨hh,g,d,t,os⟩:=s
 refine wpAny_bind (wpAny_pure (wpAny_bind (wpAny_pure (wpAny_bind (L0.at (wpAny_bind (L1.at ?_)))))))
 dsimp only
 unfold Builtin.ObjectAttr.bindTo
 dsimp only
 refine wpAny_bind (wpAny_holding (wpAny_call (PySem.W.class_get X I i.hm ?_)))
 exact wpAny_pure (PySem.W.handed_on rfl (wpAny_pure h))
end
theorem Gv {K:PySem.W.Frag} {x C:Addr} (c:XG K C) (i:IsC K C):PySem.W.KitX K (.ref x) (.ref C) (fun h=>∃ ox od,PySem.W.InstAt h x ox C od) where
 ty:=fun _ _ _ ⟨_,_,I⟩=>I.type
 it:=fun _ _ X _=>by
  obtain ⟨cdD,hcD,_⟩:=PySem.W.any_some c.hd
  unfold PySem.W.clsIn at hcD
  split at hcD
  ·rename_i c' d' cd' sl' ho
   intro A' Q' E' s' k q
   unfold isType loadHead
   exact wpAny_bind (wpAny_loadPart (k _ _ (X _ _ ho)) (wpAny_pure q))
  ·cases hcD
 ne:=fun h tp dd its n sl X htp=>by
  obtain ⟨cdD,hcD,_⟩:=PySem.W.any_some c.hd
  refine Bool.eq_false_iff.mpr fun q=>?_
  have e:C = tp:=Value.ref.inj (beq_iff_eq.mp q)
  subst e
  unfold PySem.W.clsIn at hcD
  split at hcD
  ·rename_i c' d' cd' sl' ho
   have z:=(X _ _ ho).symm.trans htp
   cases z
  ·cases hcD
 ca:=fun X ⟨_,_,I⟩ k=>Hu X I c i k
section
variable {X:Cx} {pins:List (Addr × Obj)} {σ:St} {H:Hp} {s:Shared} {x C:Addr}
theorem Jv (I:Inv X pins σ H s) (e:H x = some (XO x C none)):∃ ox od,PySem.W.InstAt s.heap x ox C od:=by
 obtain ⟨o,vs,h1,h2,h3,h4⟩:∃ o vs,s.heap.get? x = some o/\o.cls = .ref C/\o.dict = none/\o.data = .fields vs:=(I.hok x _ e).1
 exact ⟨o,none,⟨h1,h2,by unfold PySem.W.notCls; rw [h4],by rw [h3]; trivial⟩⟩
end
noncomputable def Xy (K:PySem.W.Frag) (cv:V->Option Value):List V->Hp->VK->Prop:=fun xs H Q=>∃ x C y c b,xs = [.ref x,y]/\cv y = some c/\H x = some (XO x C none)/\XG K C/\IsC K C/\PySem.W.kitOne K (.ref C) c = some b/\Q (.bl b) H
theorem Gp {X:Cx} (K:PySem.W.Frag) (hK:X.K = K:=by rfl):E9 X (.builtin "isinstance") (Xy K fun y=>match y with | .ref a=>some (.ref a) | .ty n=>some (.type n) | _=>none):=by
 subst hK
 intro pins s σ H xs us Q I r h
 obtain ⟨x,C,y,c,b,rfl,hc,e1,g,i,hk,q⟩:=h
 obtain ⟨u,v,rfl,ru,rv⟩:=r.two
 cases (show u = Value.ref x from ru)
 have ev:v = c:=by
  cases y with
  | ref a=>cases hc; exact rv
  | ty n=>cases hc; cases rv; rfl
  | _=>cases hc
 subst ev
 obtain ⟨ox,od,J⟩:=Jv I e1
 exact PySem.W.kia_one (Gv g i) I.kIn ⟨ox,od,J⟩ hk (fun z=>nomatch z) fun tk=>⟨.bl b,H,I.tok _,rfl,q⟩
theorem Lc {X:Cx} (K:PySem.W.Frag) (hK:X.K = K:=by rfl):E9 X (.builtin "isinstance") (fun xs H Q=>∃ (x C:Addr) (p:Addr) (cs:List Addr) (b:Bool),xs = [.ref x,.ref p]/\H p = some (.tup (cs.map V.ref))/\H x = some (XO x C none)/\XG K C/\IsC K C/\PySem.W.kitAny K (.ref C) (cs.map Value.ref) = some b/\Q (.bl b) H):=by
 subst hK
 intro pins s σ H xs us Q I r h
 obtain ⟨x,C,p,cs,b,rfl,hp,e1,g,i,hk,q⟩:=h
 obtain ⟨u,v,rfl,ru,rv⟩:=r.two
 cases (show u = Value.ref x from ru)
 cases (show v = Value.ref p from rv)
 obtain ⟨its,rv,pl,hz⟩:=I.tuple (SqT.of hp)
 rw [Jt rv] at pl
 obtain ⟨⟨oc,od',odt,osl⟩,ho,hc,n,hd⟩:=pl
 cases hc
 cases hd
 obtain ⟨ox,od,J⟩:=Jv I e1
 exact PySem.W.kia_tup (Gv g i) I.kIn ⟨ox,od,J⟩ ho hk (fun z=>nomatch z) fun tk=>⟨.bl b,H,I.tok _,rfl,q⟩
end L2
namespace L2
open PySem PySem.Spec PyProof.Rows
noncomputable def evs {α:Type} (xs:List α):List α:=(List.range ((xs.length + 1) / 2)).filterMap fun k=>xs[2 * k]?
theorem Vi {α:Type} (xs:List α):(evs xs).length<=xs.length:=by
 unfold evs
 have h:=List.length_filterMap_le (fun k=>xs[2 * k]?) (List.range ((xs.length + 1) / 2))
 rw [List.length_range] at h
 omega
theorem Mv {α β:Type} (f:α->β) (xs:List α):evs (xs.map f) = (evs xs).map f:=by
 unfold evs
 rw [List.length_map,List.map_filterMap]
 congr 1
 funext k
 rw [List.getElem?_map]
theorem Kb:∀ {xs:List V} {us:List Value},Vals xs us->∀ i:Nat,(xs[i]? = none/\us[i]? = none)\/∃ x u,xs[i]? = some x/\us[i]? = some u/\RelV x u
 | _,_,.nil,i=>.inl ⟨rfl,rfl⟩
 | x :: xs,u :: us,.cons r t,0=>.inr ⟨x,u,rfl,rfl,r⟩
 | x :: xs,u :: us,.cons r t,i + 1=>Kb t i
theorem q9 {xs:List V} {us:List Value} (r:Vals xs us):∀ l:List Nat,Vals (l.filterMap fun k=>xs[2 * k]?) (l.filterMap fun k=>us[2 * k]?)
 | []=>.nil
 | k :: l=>by
  rcases Kb r (2 * k) with ⟨h1,h2⟩ | ⟨x,u,h1,h2,h3⟩
  ·rw [List.filterMap_cons_none (f:=fun k=>xs[2 * k]?) h1,List.filterMap_cons_none (f:=fun k=>us[2 * k]?) h2]
   exact q9 r l
  ·rw [List.filterMap_cons_some (f:=fun k=>xs[2 * k]?) h1,List.filterMap_cons_some (f:=fun k=>us[2 * k]?) h2]
   exact .cons h3 (q9 r l)
theorem Dk (its:List Value) {lo:Option Int} (hl:lo = none\/lo = some 0):slicePick its.toArray lo none (some 2) = (evs its).toArray:=by
 have hb:sliceBounds lo none (some 2) its.toArray.size = (0,(its.length:Int),2):=by
  rcases hl with rfl | rfl
  ·simp [sliceBounds]
  ·simp [sliceBounds]
   omega
 have e:∀ n:Nat,(if (2:Int) > 0 then (if (0:Int) < (n:Int) then ((n:Int) - 0 + 2 - 1) / 2 else 0) else (if (0:Int) > (n:Int) then (0 - (n:Int) - 2 - 1) / (-2) else 0)).toNat = (n + 1) / 2:=fun n=>by
  rw [if_pos (by decide)]
  by_cases h:(0:Int) < (n:Int)
  ·rw [if_pos h]; omega
  ·rw [if_neg h]
   have:n = 0:=by omega
   subst this
   rfl
 unfold slicePick evs sliceRange
 rw [hb]
 simp only []
 rw [e,List.filterMap_map]
 congr 2
 funext k
 show its.toArray[((0:Int) + 2 * (k:Int)).toNat]? = _
 rw [show ((0:Int) + 2 * (k:Int)).toNat = 2 * k by omega]
 simp
noncomputable def zCr (K:PySem.W.Frag) (te:TE) (tl ts:TO):TE:=fun σ H Q=>te σ H fun x H1=>tl σ H1 fun l H2=>ts σ H2 fun c H3=>(l = none\/l = some 0)/\c = some 2/\∃ a xs,x = .ref a/\SqL K H3 a xs/\∀ p,H3 p = none->Q (.ref p) (upd H3 p (.lst (evs xs)))
theorem Fq {X:Cx} (K:PySem.W.Frag) {e:Expr} {te:TE} {lo:Option Expr} {st:Expr} {tl ts:TO} {pos p2:Pos} (he:PE X e te) (hl:PO X lo tl) (hst:PO X (some st) ts) (hK:X.K = K:=by rfl):PE X (.Subscript e (.Slice lo none (some st) p2) pos) (zCr K te tl ts):=by
 subst hK
 intro pins s σ H Q I h
 refine Subscript_ (thn (he pins s σ H _ I h) fun v s1 ⟨x,H1,I1,r1,q1⟩=>?_)
 refine wpAny_Slice (thn (hl pins s1 σ H1 _ I1 q1) fun vl s2 ⟨l,H2,I2,pl,q2⟩=>?_)
 rw [evalPart_none]
 refine wpAny_pure (thn (hst pins s2 σ H2 _ I2 q2) fun vs s3 ⟨c,H3,I3,ps,hlo,hc,a,xs,ex,hx,q⟩=>?_)
 subst ex
 cases r1
 have I4:Inv X pins σ H3 { s3 with heap:=s3.heap.push { cls:=.type "slice",data:=.fields #[vl,.none,vs] } }:=I3.kept (t':=s3.toks) fun b ob q=>Heap.get?_push_of_some _ q
 obtain ⟨its,r,ht,hz⟩:=I4.list hx
 have hlen:=r.length
 have hg:wpAny (model X.prog X.w) X.A (getItem (.ref a) (.ref s3.heap.objs.size)) (EP X pins σ Q) X.xe { s3 with heap:=s3.heap.push { cls:=.type "slice",data:=.fields #[vl,.none,vs] } }:=by
  refine wpAny_getItem_list_slice ht.isList (Heap.IsSliceOf.new ..) pl .none ps (by rw [hc]; decide) ?_ (by rw [List.size_toArray] <;> omega)
  rw [hc,Dk its hlo]
  refine ⟨.ref _,_,I4.laid (t':=s3.toks) (o:=.lst (evs xs)) (fun b ob q=>Heap.get?_push_of_some _ q) (Nat.le_refl _) ?_,rfl,q _ (I4.hok.fresh (Nat.le_refl _))⟩
  refine ⟨Nat.le_trans (Vi xs) hz,_,0,?_,Heap.get?_push_size _ rfl⟩
  unfold evs
  rw [hlen]
  exact q9 r _
 show wpAny (model X.prog X.w) X.A (subscriptTail e (.Slice lo none (some st) p2) (.ref a) (.ref s3.heap.objs.size)) (EP X pins σ Q) X.xe { s3 with heap:=s3.heap.push { cls:=.type "slice",data:=.fields #[vl,.none,vs] } }
 exact tail_any (ops:=[.ref a,.ref s3.heap.objs.size]) ht.isList.typeIs slot_list_getitem.lookup hg (by with_unfolding_all rfl)
end L2
namespace L2
open PySem PySem.Spec PyProof.Rows
section
variable {X:Cx}
theorem So (K:PySem.W.Frag) (w:World) (hc:X.calm = true:=by rfl) (hK:X.K = K:=by rfl) (hw:X.w = w:=by rfl):E9 X (.type "set") (fun xs H Q=>∃ (p:Addr) (ss:List Str),xs = [.ref p]/\(SqL K H p (ss.map V.str)\/SqT K H p (ss.map V.str))/\ss.length < 4096/\∀ l,H l = none->Q (.ref l) (upd H l (Bn w l (U3 [] ss)))):=by
 subst hK; subst hw
 intro pins s σ H xs us Q I r h
 obtain ⟨p,ss,rfl,hq,hb,q⟩:=h
 obtain ⟨u,rfl,rx⟩:=X1 r
 cases rx
 have fin:∀ (h':Heap) (tk:Nat),ST.WS X.w h' s.heap.objs.size (U3 [] ss)->(∀ b o,s.heap.get? b = some o->h'.get? b = some o)->EP X pins σ Q (.ref s.heap.objs.size) { s with heap:=h',toks:=tk }:=fun h' tk z k=>by
  exact ⟨.ref s.heap.objs.size,_,I.laid (t':=tk) k (Nat.le_refl _) (Nv z),rfl,q _ (I.hok.fresh (Nat.le_refl _))⟩
 rcases hq with hq | hq
 ·obtain ⟨its,r',pl,hz⟩:=I.list hq
  have hlen:=r'.length
  rw [List.length_map] at hlen
  obtain ⟨o,ho,hc',n,hd⟩:=pl.isList
  exact Bv (I.ok.hd hc) ho hc' F.sub_list_set F.sub_list_frozenset (by decide) (fun s1 e q=>wpAny_pyIter_list ⟨_,e,hc',n,hd⟩ q) (fun A I hA hne=>Walks.list hA I p hne its.toArray) (fun h I e1 e2=>⟨⟨_,e1,rfl,rfl⟩,⟨_,e2,hc',n,hd⟩⟩) rfl (by simp [hlen]) (Mn r') (by simpa [<-hlen] using hb) fin
 ·obtain ⟨its,r',pl,hz⟩:=I.tuple hq
  have hlen:=r'.length
  rw [List.length_map] at hlen
  obtain ⟨o,ho,hc',n,hd⟩:=pl
  exact Bv (I.ok.hd hc) ho hc' Ee U8 (by decide) (fun s1 e q=>wpAny_pyIter_tuple ⟨_,e,hc',n,hd⟩ q) (fun A I hA hne=>Walks.tuple hA I p hne its.toArray) (fun h I e1 e2=>⟨⟨_,e1,rfl,rfl⟩,⟨_,e2,hc',n,hd⟩⟩) rfl (by simp [hlen]) (Mn r') (by simpa [<-hlen] using hb) fin
end
end L2
namespace Sw
open PySem L2
noncomputable def top (i:Nat):Stmt:=PySem.Challenge.pw_strikeweave_k49_disputes_by_turns.main.body.getD i (.Pass ⟨0,0,0,0⟩)
noncomputable abbrev s_is_quiet:Stmt:=top 11
noncomputable abbrev s_struck_by_any:Stmt:=top 12
noncomputable abbrev s_strikers_of_any:Stmt:=top 13
noncomputable abbrev s_is_name:Stmt:=top 18
noncomputable abbrev s_check_names:Stmt:=top 19
noncomputable abbrev s_check_strikes:Stmt:=top 20
noncomputable abbrev s_is_strike:Stmt:=top 21
noncomputable abbrev s_law_mix:Stmt:=top 25
noncomputable abbrev s_law_left:Stmt:=top 26
noncomputable abbrev s_law_pick:Stmt:=top 27
noncomputable abbrev s_law_names:Stmt:=top 28
noncomputable abbrev s_law_size:Stmt:=top 29
noncomputable abbrev s_law_strikes:Stmt:=top 30
noncomputable abbrev s_law_same:Stmt:=top 31
noncomputable abbrev s_law_strikers:Stmt:=top 32
noncomputable abbrev s_law_moves:Stmt:=top 33
noncomputable abbrev s_law_turn:Stmt:=top 34
noncomputable abbrev s_law_looks_right:Stmt:=top 35
noncomputable abbrev s_law_refused:Stmt:=top 36
noncomputable abbrev s_law_begun:Stmt:=top 37
noncomputable abbrev s_law_all_right:Stmt:=top 38
noncomputable abbrev s_law:Stmt:=top 39
noncomputable abbrev s_BadName___init__:Stmt:=E7 (top 2) 0
noncomputable abbrev s_BadStrike___init__:Stmt:=E7 (top 3) 0
noncomputable abbrev s_Web___init__:Stmt:=E7 (top 17) 0
noncomputable abbrev s_Web_all_names:Stmt:=E7 (top 17) 1
noncomputable abbrev s_Web_all_strikes:Stmt:=E7 (top 17) 2
noncomputable abbrev s_Web_strikers:Stmt:=E7 (top 17) 3
noncomputable abbrev s_Web_struck:Stmt:=E7 (top 17) 4
noncomputable abbrev s_Web_check_has:Stmt:=E7 (top 17) 5
noncomputable abbrev s_Dp___init__:Stmt:=E7 (top 23) 0
noncomputable abbrev s_Dp_turn:Stmt:=E7 (top 23) 1
noncomputable abbrev s_Dp_moves:Stmt:=E7 (top 23) 2
noncomputable abbrev s_Dp_play:Stmt:=E7 (top 23) 3
noncomputable abbrev s_Dp_back:Stmt:=E7 (top 23) 4
noncomputable abbrev s_Dp_named:Stmt:=E7 (top 23) 5
noncomputable abbrev s_Dp_winner:Stmt:=E7 (top 23) 6
noncomputable abbrev s_Dp_begins_unquiet:Stmt:=E7 (top 23) 7
noncomputable abbrev s_Dp_askers_names:Stmt:=E7 (top 23) 8
noncomputable abbrev s_Dp_doubts:Stmt:=E7 (top 23) 9
noncomputable abbrev s_Dp_answers:Stmt:=E7 (top 23) 10
noncomputable abbrev s_Dp_may_answer:Stmt:=E7 (top 23) 11
structure Tx (K:PySem.W.Frag) (mg:Str->Option Value) where
 is_quiet:Fn K mg "is_quiet" s_is_quiet ["web", "some"]
 struck_by_any:Fn K mg "struck_by_any" s_struck_by_any ["web", "some"]
 strikers_of_any:Fn K mg "strikers_of_any" s_strikers_of_any ["web", "some"]
 is_name:Fn K mg "is_name" s_is_name ["thing"]
 check_names:Fn K mg "check_names" s_check_names ["names"]
 check_strikes:Fn K mg "check_strikes" s_check_strikes ["names", "strikes"]
 is_strike:Fn K mg "is_strike" s_is_strike ["names", "thing"]
 law_mix:Fn K mg "_law_mix" s_law_mix ["_law_cell", "_law_k"]
 law_left:Fn K mg "_law_left" s_law_left ["_law_script", "_law_k"]
 law_pick:Fn K mg "_law_pick" s_law_pick ["_law_left_here", "_law_many"]
 law_names:Fn K mg "_law_names" s_law_names ["_law_left_here", "_law_many"]
 law_size:Fn K mg "_law_size" s_law_size ["_law_left_here"]
 law_strikes:Fn K mg "_law_strikes" s_law_strikes ["_law_left_here", "_law_names_here"]
 law_same:Fn K mg "_law_same" s_law_same ["_law_found", "_law_due"]
 law_strikers:Fn K mg "_law_strikers" s_law_strikers ["_law_strikes_here", "_law_name"]
 law_moves:Fn K mg "_law_moves" s_law_moves ["_law_strikes_here", "_law_named", "_law_firm"]
 law_turn:Fn K mg "_law_turn" s_law_turn ["_law_strikes_here", "_law_named", "_law_firm"]
 law_looks_right:Fn K mg "_law_looks_right" s_law_looks_right ["_law_dispute", "_law_strikes_here", "_law_named", "_law_firm"]
 law_refused:Fn K mg "_law_refused" s_law_refused ["_law_web", "_law_name", "_law_kind"]
 law_begun:Fn K mg "_law_begun" s_law_begun ["_law_left_here", "_law_web", "_law_names_here", "_law_strikes_here"]
 law_all_right:Fn K mg "_law_all_right" s_law_all_right ["_law_some"]
 CWeb:Addr
 clWeb:Cls K CWeb
 mgWeb:mg "Web" = some (.ref CWeb)
 nWeb_names:NoAttr K CWeb "names"
 nWeb_strikes:NoAttr K CWeb "strikes"
 nWeb_strikers_by_name:NoAttr K CWeb "strikers_by_name"
 nWeb_struck_by_name:NoAttr K CWeb "struck_by_name"
 fWeb___init__:Addr
 fdWeb___init__:FuncData
 FWeb___init__:Fun K "__init__" "Web.__init__" s_Web___init__ fWeb___init__ fdWeb___init__
 bWeb___init__:Binds K fdWeb___init__ ["self", "names", "strikes"] []
 mkWeb:Mk K CWeb fWeb___init__
 mWeb_all_names:Mt K CWeb "all_names" "Web.all_names" s_Web_all_names ["self"]
 mWeb_all_strikes:Mt K CWeb "all_strikes" "Web.all_strikes" s_Web_all_strikes ["self"]
 mWeb_strikers:Mt K CWeb "strikers" "Web.strikers" s_Web_strikers ["self", "name"]
 mWeb_struck:Mt K CWeb "struck" "Web.struck" s_Web_struck ["self", "name"]
 mWeb_check_has:Mt K CWeb "check_has" "Web.check_has" s_Web_check_has ["self", "name"]
 CDp:Addr
 clDp:Cls K CDp
 mgDp:mg "Dispute" = some (.ref CDp)
 nDp_web:NoAttr K CDp "web"
 nDp_kind:NoAttr K CDp "kind"
 nDp_line:NoAttr K CDp "line"
 fDp___init__:Addr
 fdDp___init__:FuncData
 FDp___init__:Fun K "__init__" "Dispute.__init__" s_Dp___init__ fDp___init__ fdDp___init__
 bDp___init__:Binds K fdDp___init__ ["self", "web", "name", "kind"] []
 mkDp:Mk K CDp fDp___init__
 mDp_turn:Mt K CDp "turn" "Dispute.turn" s_Dp_turn ["self"]
 mDp_moves:Mt K CDp "moves" "Dispute.moves" s_Dp_moves ["self"]
 mDp_play:Mt K CDp "play" "Dispute.play" s_Dp_play ["self", "name"]
 mDp_back:Mt K CDp "back" "Dispute.back" s_Dp_back ["self"]
 mDp_named:Mt K CDp "named" "Dispute.named" s_Dp_named ["self"]
 mDp_winner:Mt K CDp "winner" "Dispute.winner" s_Dp_winner ["self"]
 mDp_begins_unquiet:Mt K CDp "begins_unquiet" "Dispute.begins_unquiet" s_Dp_begins_unquiet ["self"]
 mDp_askers_names:Mt K CDp "askers_names" "Dispute.askers_names" s_Dp_askers_names ["self"]
 mDp_doubts:Mt K CDp "doubts" "Dispute.doubts" s_Dp_doubts ["self"]
 mDp_answers:Mt K CDp "answers" "Dispute.answers" s_Dp_answers ["self"]
 mDp_may_answer:Mt K CDp "may_answer" "Dispute.may_answer" s_Dp_may_answer ["self", "name"]
 CStrikeError:Addr
 bmStrikeError:List Value
 xcStrikeError:XC K CStrikeError bmStrikeError
 mgStrikeError:mg "StrikeError" = some (.ref CStrikeError)
 CBadName:Addr
 bmBadName:List Value
 xcBadName:XC K CBadName bmBadName
 mgBadName:mg "BadName" = some (.ref CBadName)
 CBadStrike:Addr
 bmBadStrike:List Value
 xcBadStrike:XC K CBadStrike bmBadStrike
 mgBadStrike:mg "BadStrike" = some (.ref CBadStrike)
 CBadWeave:Addr
 bmBadWeave:List Value
 xcBadWeave:XC K CBadWeave bmBadWeave
 mgBadWeave:mg "BadWeave" = some (.ref CBadWeave)
 CBadRow:Addr
 bmBadRow:List Value
 xcBadRow:XC K CBadRow bmBadRow
 mgBadRow:mg "BadRow" = some (.ref CBadRow)
 CNoName:Addr
 bmNoName:List Value
 xcNoName:XC K CNoName bmNoName
 mgNoName:mg "NoName" = some (.ref CNoName)
 CNoStrike:Addr
 bmNoStrike:List Value
 xcNoStrike:XC K CNoStrike bmNoStrike
 mgNoStrike:mg "NoStrike" = some (.ref CNoStrike)
 CNoMove:Addr
 bmNoMove:List Value
 xcNoMove:XC K CNoMove bmNoMove
 mgNoMove:mg "NoMove" = some (.ref CNoMove)
 CTooMany:Addr
 bmTooMany:List Value
 xcTooMany:XC K CTooMany bmTooMany
 mgTooMany:mg "TooMany" = some (.ref CTooMany)
 xgBadName:XG K CBadName
 isBadName:IsC K CBadName
 upBadName_StrikeError:(Value.ref CBadName :: bmBadName).contains (.ref CStrikeError) = true
 askBadName_0:PySem.W.kitAny K (.ref CBadName) [.ref CBadName,.ref CBadRow,.ref CBadStrike,.ref CBadWeave,.ref CNoMove,.ref CNoStrike,.ref CTooMany] = some true
 askBadName_1:PySem.W.kitOne K (.ref CBadName) (.ref CNoName) = some false
 askBadName_2:PySem.W.kitOne K (.ref CBadName) (.type "ValueError") = some true
 nBadName_place:NoAttr K CBadName "place"
 fBadName___init__:Addr
 fdBadName___init__:FuncData
 FBadName___init__:Fun K "__init__" "BadName.__init__" s_BadName___init__ fBadName___init__ fdBadName___init__
 bBadName___init__:Binds K fdBadName___init__ ["self", "place"] []
 meBadName:Meth K CBadName "__init__" fBadName___init__
 xgBadStrike:XG K CBadStrike
 isBadStrike:IsC K CBadStrike
 upBadStrike_StrikeError:(Value.ref CBadStrike :: bmBadStrike).contains (.ref CStrikeError) = true
 askBadStrike_0:PySem.W.kitAny K (.ref CBadStrike) [.ref CBadName,.ref CBadRow,.ref CBadStrike,.ref CBadWeave,.ref CNoMove,.ref CNoStrike,.ref CTooMany] = some true
 askBadStrike_1:PySem.W.kitOne K (.ref CBadStrike) (.ref CNoName) = some false
 askBadStrike_2:PySem.W.kitOne K (.ref CBadStrike) (.type "ValueError") = some true
 nBadStrike_place:NoAttr K CBadStrike "place"
 fBadStrike___init__:Addr
 fdBadStrike___init__:FuncData
 FBadStrike___init__:Fun K "__init__" "BadStrike.__init__" s_BadStrike___init__ fBadStrike___init__ fdBadStrike___init__
 bBadStrike___init__:Binds K fdBadStrike___init__ ["self", "place"] []
 meBadStrike:Meth K CBadStrike "__init__" fBadStrike___init__
 xgNoName:XG K CNoName
 isNoName:IsC K CNoName
 upNoName_StrikeError:(Value.ref CNoName :: bmNoName).contains (.ref CStrikeError) = true
 askNoName_0:PySem.W.kitAny K (.ref CNoName) [.ref CBadName,.ref CBadRow,.ref CBadStrike,.ref CBadWeave,.ref CNoMove,.ref CNoStrike,.ref CTooMany] = some false
 askNoName_1:PySem.W.kitOne K (.ref CNoName) (.ref CNoName) = some true
 askNoName_2:PySem.W.kitOne K (.ref CNoName) (.type "ValueError") = some true
 niNoName:PySem.W.findIn K (.ref CNoName) "__init__" = some (some (.builtin "ValueError.__init__"))
 xgNoMove:XG K CNoMove
 isNoMove:IsC K CNoMove
 upNoMove_StrikeError:(Value.ref CNoMove :: bmNoMove).contains (.ref CStrikeError) = true
 askNoMove_0:PySem.W.kitAny K (.ref CNoMove) [.ref CBadName,.ref CBadRow,.ref CBadStrike,.ref CBadWeave,.ref CNoMove,.ref CNoStrike,.ref CTooMany] = some true
 askNoMove_1:PySem.W.kitOne K (.ref CNoMove) (.ref CNoName) = some false
 askNoMove_2:PySem.W.kitOne K (.ref CNoMove) (.type "ValueError") = some true
 niNoMove:PySem.W.findIn K (.ref CNoMove) "__init__" = some (some (.builtin "ValueError.__init__"))
 gLETTERS:∃ t,mg "LETTERS" = some (.str "abcdefghijklmnopqrstuvwxyz" t)
 gLONGEST_NAME:∃ t,mg "LONGEST_NAME" = some (.int 8 t)
 b_len:mg "len" = none
 b_range:mg "range" = none
 b_enumerate:mg "enumerate" = none
 b_zip:mg "zip" = none
 b_min:mg "min" = none
 b_max:mg "max" = none
 b_abs:mg "abs" = none
 b_sorted:mg "sorted" = none
 b_int:mg "int" = none
 b_str:mg "str" = none
 b_bool:mg "bool" = none
 b_list:mg "list" = none
 b_tuple:mg "tuple" = none
 b_set:mg "set" = none
 b_isinstance:mg "isinstance" = none
 b_all:mg "all" = none
 b_any:mg "any" = none
 b_ValueError:mg "ValueError" = none
end Sw
namespace L2
open PySem
theorem Ed {J:It} {xs:List V} {a:Addr} {H0:Hp} (as:AsSeq J xs a H0) {g:TG} {tb:TS} {D:Ends} {σ:St} {H:Hp} (Pv:Nat->St->Hp->Prop) (h0:Pv 0 σ H) (hk:∀ i σ H,i<=xs.length->Pv i σ H->KeepAt a H0 H)
  (hs:∀ i σ H x,xs[i]? = some x->Pv i σ H->∀ D':Ends,(∀ σ' H',Pv (i + 1) σ' H'->D'.nx σ' H')->D'.rt = D.rt->g x σ H fun σ2 H2=>tb D' σ2 H2) (hd:∀ σ H,Pv xs.length σ H->D.nx σ H) :
  ∃ W:Nat->Nat->St->Hp->Prop,(∃ m,W 0 m σ H)/\∀ i m σ H,W i m σ H ->
   (J.stop i H/\D.nx σ H)\/(J.go i H/\∃ N:St->Hp->Prop,(∀ σ' H',N σ' H'->∃ m',m' < m/\W (i + 1) m' σ' H')/\∀ x H',J.yld i H x H'->g x σ H' fun σ2 H2=>tb { D with nx:=N,ct:=N,bk:=D.nx } σ2 H2) :=
 Zq as Pv h0 hk (fun i σ H x hx hp=>hs i σ H x hx hp _ (fun _ _ z=>z) rfl) hd
theorem Q4 {lo:Int} {n:Nat} {g:TG} {tb:TS} {D:Ends} {σ:St} {H:Hp} (Pv:Nat->St->Hp->Prop) (h0:Pv 0 σ H)
  (hs:∀ i σ H,i < n->Pv i σ H->∀ D':Ends,(∀ σ' H',Pv (i + 1) σ' H'->D'.nx σ' H')->D'.rt = D.rt->g (.int (lo + i)) σ H fun σ2 H2=>tb D' σ2 H2) (hd:∀ σ H,Pv n σ H->D.nx σ H) :
  ∃ W:Nat->Nat->St->Hp->Prop,(∃ m,W 0 m σ H)/\∀ i m σ H,W i m σ H ->
   ((Itr lo n).stop i H/\D.nx σ H)\/((Itr lo n).go i H/\∃ N:St->Hp->Prop,(∀ σ' H',N σ' H'->∃ m',m' < m/\W (i + 1) m' σ' H')/\∀ x H',(Itr lo n).yld i H x H'->g x σ H' fun σ2 H2=>tb { D with nx:=N,ct:=N,bk:=D.nx } σ2 H2) :=
 Nq Pv h0 (fun i σ H hi hp=>hs i σ H hi hp _ (fun _ _ z=>z) rfl) hd
theorem ex1 {α:Type} {A C:α->Prop} {a:α} (e:A a) (h:C a):∃ v,A v/\C v:=⟨a,e,h⟩
theorem W6 {α0 α1 α2:Type} {A0 A1 A2 A3 A4 A5:α0->α1->α2->Prop} {a:α0} {b:α1} {c:α2} (h0:A0 a b c) (h1:A1 a b c) (h2:A2 a b c) (h3:A3 a b c) (h4:A4 a b c) (h5:A5 a b c):∃ a b c,A0 a b c/\A1 a b c/\A2 a b c/\A3 a b c/\A4 a b c/\A5 a b c:=⟨a,b,c,h0,h1,h2,h3,h4,h5⟩
theorem zAv {α0 α1 α2 α3 α4:Type} {A0 A1 A2 A3 A4:α0->α1->α2->α3->α4->Prop} {a:α0} {b:α1} {c:α2} {d:α3} {e:α4} (h0:A0 a b c d e) (h1:A1 a b c d e) (h2:A2 a b c d e) (h3:A3 a b c d e) (h4:A4 a b c d e):∃ a b c d e,A0 a b c d e/\A1 a b c d e/\A2 a b c d e/\A3 a b c d e/\A4 a b c d e:=⟨a,b,c,d,e,h0,h1,h2,h3,h4⟩
theorem B7 {α0 α1:Type} {A0 A1 A2:α0->α1->Prop} {a:α0} {b:α1} (h0:A0 a b) (h1:A1 a b) (h2:A2 a b):∃ a b,A0 a b/\A1 a b/\A2 a b:=⟨a,b,h0,h1,h2⟩
theorem B6 {t u:TS} {D:Ends} {σ:St} {H:Hp} (h:∀ N:St->Hp->Prop,(∀ σ' H',u D σ' H'->N σ' H')->t { D with nx:=N } σ H):Uu t u D σ H:=h _ fun _ _ z=>z
theorem Qp {i:Nat} {v:V} {t u:TS} {D:Ends} {σ:St} {H:Hp} (h:∀ N:St->Hp->Prop,(∀ σ' H',u D σ' H'->N σ' H')->t { D with nx:=N } (σ.set i (some v)) H):T9 i v σ H (fun σ2 H2=>Uu t u D σ2 H2):=h _ fun _ _ z=>z
end L2
namespace Sw
open PySem L2
section
variable {P:Program} {w:World} {K:PySem.W.Frag} {mg:Str->Option Value} {base:Heap}
noncomputable def Wi (c:Nat):Bool:=decide (97<=c) && decide (c<=122)
noncomputable def M7 (x:Str):Bool:=decide (1<=x.length) && decide (x.length<=8) && x.cps.toList.all Wi
theorem Hk:("abcdefghijklmnopqrstuvwxyz":Str).cps.toList = List.range' 97 26:=by decide +kernel
theorem Vo (c:Nat):decide (c ∈ ("abcdefghijklmnopqrstuvwxyz":Str).cps.toList) = Wi c:=by
 rw [Hk]
 unfold Wi
 by_cases h1:97<=c
 ·by_cases h2:c<=122
  ·rw [decide_eq_true (List.mem_range'_1.mpr (by omega)),decide_eq_true h1,decide_eq_true h2]; rfl
  ·rw [decide_eq_false (fun z=>by have:=List.mem_range'_1.mp z; omega),decide_eq_false h2,Bool.and_false]
 ·rw [decide_eq_false (fun z=>by have:=List.mem_range'_1.mp z; omega),decide_eq_false h1,Bool.false_and]
theorem Kr:FnScope ["thing"] ["thing"] (B5 s_is_name):=⟨rfl,rfl,rfl,by decide +kernel,rfl,by decide +kernel,by decide +kernel⟩
noncomputable def Bu:Sp:=fun vs H Q _=>∃ x,vs = [.str x]/\x.length<=1000/\∀ H',Same H H'->Q (.bl (M7 x)) H'
theorem Lr (T:Tx K mg):FnOk P w K mg base CX0 1 T.is_name.f T.is_name.fd ["thing"] Bu:=by
 refine T.is_name.F.ok Kr (fun vs H Q E h=>?_) (fun cdv A outer s H vs Q E hr h=>?_)
 ·obtain ⟨x,rfl,_⟩:=h
  rfl
 ·obtain ⟨x,rfl,hx,k⟩:=h
  refine ⟨_,(B0 (I0 (PW.pt (Dx (U5 (M0 (D0 (K7 K) T.b_isinstance B8 (A6 (pv 0) (A6 (T7 T.b_str Iu) A9))))) (W7 (U5 (Qk Zo Zo B4 (D0 Ev T.b_len O3 (A6 (pv 0) A9)) (zAy T.gLONGEST_NAME)))))) (B1 (C0 Gr)) C1)
   (B1 (C0 (D0 (Kj K) T.b_all Je (A6 (Aw (N':=["letter"]) (cap:=[none]) (cl:=[]) (V2 trivial trivial) rfl (Xb (pv 0)) (fun _ _ _ _=>by exact ⟨(pgC 0),O9,(I9 Nc (pv 0) (zBc T.gLETTERS) rfl)⟩)) A9))))),?_⟩
  have h64:x.length<=sizeLine:=by rw [sizeLine_eq]; omega
  have hlen:x.cps.size = x.length:=rfl
  refine ex1 rfl ⟨.str x, "str",_,true,rfl,.str x,rfl,ex1 rfl ?_⟩
  refine O4 ?_
  refine ex1 rfl ⟨x,rfl,h64,B7 rfl rfl (ex1 rfl ?_)⟩
  refine Fz (fun c1=>?_) (fun c1=>?_)
  ·have c1:(1:Int)<=(x.length:Int):=of_decide_eq_true c1
   refine B7 rfl rfl (ex1 rfl ?_)
   by_cases c2:(x.length:Int)<=8
   ·rw [decide_eq_true c2]
    refine O4 ?_
    refine ex1 rfl ⟨x,rfl,fun D hD=>?_⟩
    refine Ny (n:=x.cps.size) (fun i σ H'=>(∃ v,σ = [v])/\Same H H'/\H' D = some (.lst ((x.cps.toList.take i).map fun c=>V.bl (Wi c)))) ⟨⟨_,rfl⟩,Same.new hD,A7⟩ (fun i _ _ hi _=>hi) (fun _ _ _=>rfl) ?_ ?_
    ·rintro i σ H1 v H' N hi ⟨⟨v0,rfl⟩,s1,e1⟩ ⟨rfl,c,hc,rfl⟩ hN
     refine b8 ?_
     refine ex1 rfl (B7 rfl rfl ⟨_,e1,?_,?_⟩)
     ·rw [List.length_map,List.length_take,sizeLine_eq]; omega
     ·rw [PySem.StrLaws.found_one,Vo]
      refine hN _ _ ⟨⟨_,rfl⟩,s1.upd hD,?_⟩
      rw [A7]
      have:x.cps.toList[i]? = some c:=by rw [Array.getElem?_toList]; exact hc
      rw [List.take_add_one,this,List.map_append]
      rfl
    ·rintro σ H1 ⟨_,s1,e1⟩
     refine ⟨D,x.cps.toList.map Wi,rfl,SqL.of ?_,?_⟩
     ·rw [e1,<-Array.length_toList,List.take_length,List.map_map]; rfl
     ·have e:(x.cps.toList.map Wi).all id = M7 x:=by
       unfold M7
       rw [decide_eq_true (show 1<=x.length by omega),decide_eq_true (show x.length<=8 by omega),List.all_map]
       rfl
      rw [e]
      exact k _ s1
   ·rw [decide_eq_false c2]
    refine T6 ?_
    have e:M7 x = false:=by
     unfold M7
     rw [decide_eq_false (show ¬ x.length<=8 by omega),Bool.and_false,Bool.false_and]
    have:=k H (Same.refl H)
    rw [e] at this
    exact this
  ·have c1:¬ (1:Int)<=(x.length:Int):=fun z=>c1 (decide_eq_true z)
   refine ex1 rfl ?_
   refine T6 ?_
   have e:M7 x = false:=by
    unfold M7
    rw [decide_eq_false (show ¬ 1<=x.length by omega),Bool.false_and,Bool.false_and]
   have:=k H (Same.refl H)
   rw [e] at this
   exact this
end
end Sw
namespace Sw
open PySem L2
section
variable {P:Program} {w:World} {K:PySem.W.Frag} {mg:Str->Option Value} {base:Heap}
theorem E2 {α:Type} {l:List α} {i:Nat} {x:α} (h:l[i]? = some x):l.take (i + 1) = l.take i ++ [x]:=by
 rw [List.take_add_one,h]; rfl
theorem Cf {α:Type} {l:List α} {i:Nat} {x:α} (nd:l.Nodup) (h:l[i]? = some x):x ∉ l.take i:=by
 intro hm
 obtain ⟨j,hj,e⟩:=List.getElem_of_mem hm
 have hj':j < i:=by rw [List.length_take] at hj; omega
 rw [List.getElem_take] at e
 obtain ⟨hi,e'⟩:=List.getElem?_eq_some_iff.mp h
 have:=(List.getElem_inj nd).mp (e.trans e'.symm)
 omega
theorem U6:FnScope ["names", "seen", "place", "name"] ["names"] (B5 s_check_names):=⟨rfl,rfl,rfl,by decide +kernel,rfl,by decide +kernel,by decide +kernel⟩
noncomputable def S8 (ss:List Str):Prop:=(∀ x ∈ ss,M7 x = true)/\ss.Nodup/\ss.length<=100
noncomputable def U4 (K:PySem.W.Frag):Sp:=fun vs H Q _=>∃ (p:Addr) (ss:List Str),vs = [.ref p]/\Sqs K H p (ss.map V.str)/\S8 ss/\∀ H',Same H H'->Q .non H'
theorem Pe {x:Str} (h:M7 x = true):1<=x.length/\x.length<=8:=by
 unfold M7 at h
 rw [Bool.and_eq_true,Bool.and_eq_true] at h
 exact ⟨of_decide_eq_true h.1.1,of_decide_eq_true h.1.2⟩
theorem Bc (T:Tx K mg):FnOk P w K mg base CX0 2 T.check_names.f T.check_names.fd ["names"] (U4 K):=by
 have G_is_name:FnOk P w K mg base CX0 1 T.is_name.f T.is_name.fd ["thing"] Bu:=Lr T
 have sc:=U6
 refine T.check_names.F.ok U6 (fun vs H Q E h=>?_) (fun cdv A outer s H vs Q E hr h=>?_)
 ·obtain ⟨p,ss,rfl,_⟩:=h
  rfl
 ·obtain ⟨a,ss,rfl,hS,⟨hN,hD,hL⟩,k⟩:=h
  have hu:=Hg hr
  refine ⟨_,(B0 (C5 (i:=1) sc.nd rfl (by first | exact Or.inl rfl | exact Or.inr rfl) (Ci (Vq P w) (by rfl) T.b_set Pi))
   (B1 (S9 PassesOwn.never rfl (zCc K T.b_enumerate (A6 (pv 0) A9)) (pgT K (n:=2) (E5 (G9 (i:=2) sc.nd rfl (by first | exact Or.inl rfl | exact Or.inr rfl)) (E5 (G9 (i:=3) sc.nd rfl (by first | exact Or.inl rfl | exact Or.inr rfl)) T2)))
   (B0 (I0 (PW.pt (Dx (U5 (M0 (E4 T.is_name G_is_name (hr.mono (by decide)) (A6 (pv 3) A9)))) (W7 (B9 (zAh P w) (pv 3) (pv 1) rfl)))) (B1 X3) C1)
   (B1 (C7 (Tq P w (Zg P w) (pv 1) (A6 (pv 3) A9)))))))),?_⟩
  refine ⟨rfl,fun p hp=>?_⟩
  have s0:Same H (upd H p (Lz P w p [])):=Same.new hp
  refine ex1 rfl ⟨a,ex1 rfl (Re hS (s0.at a) fun sq hk=>Uz (n:=ss.length) (fun i σ H1=>∃ v2 v3,σ = [some (.ref a),some (.ref p),v2,v3]/\Same H H1/\H1 p = some (Lz P w p ((ss.take i).map Sum.inr))) ⟨_,_,rfl,s0,A7⟩ ?_ ?_ ?_ ?_)⟩
  ·rintro i σ H1 hi ⟨v2,v3,rfl,s1,e1⟩
   exact ⟨_,_,hk _ (s1.at a),by rw [List.getElem?_map,List.getElem?_eq_getElem hi]; rfl⟩
  ·rintro σ H1 ⟨v2,v3,rfl,s1,e1⟩
   exact ⟨_,hk _ (s1.at a),by rw [List.length_map]⟩
  ·rintro i σ H1 v H' hi ⟨v2,v3,rfl,s1,e1⟩ ⟨t,x,rfl,ht,rfl,hx⟩
   have hx:=hx _ (hk _ (s1.at a))
   have hi':ss[i]? = some ss[i]:=List.getElem?_eq_getElem hi
   rw [List.getElem?_map,hi'] at hx
   cases hx
   have hm:ss[i] ∈ ss:=List.getElem_mem hi
   have hnb:=hN _ hm
   have hlen:=Pe hnb
   have npt:p ≠ t:=A8 e1 ht
   refine ⟨t,ex1 rfl ⟨SqT.of A7,rfl,_,ex1 rfl (B7 rfl rfl ?_)⟩⟩
   refine ex1 rfl ⟨ss[i],rfl,by omega,fun H2 s2=>⟨_,rfl,?_⟩⟩
   rw [hnb]
   refine O4 ?_
   have s12:Same H H2:=(s1.trans (Same.new ht)).trans s2
   have e2:H2 p = some (Lz P w p ((ss.take i).map Sum.inr)):=s2 _ _ (by rw [B2 npt]; exact e1)
   have hnin:¬ (Sum.inr ss[i]:Key) ∈ (ss.take i).map Sum.inr:=fun z=>by
    obtain ⟨y,hy,e⟩:=List.mem_map.mp z
    cases e
    exact Cf hD hi' hy
   refine ex1 rfl (ex1 rfl ⟨p,_,Sum.inr ss[i],rfl,rfl,e2,ex1 rfl ?_⟩)
   rw [if_neg (by decide),decide_eq_false hnin]
   refine O4 ?_
   refine ex1 rfl ⟨⟨p,rfl,.inl ⟨_,e2⟩⟩,ex1 rfl ⟨p,_,Sum.inr ss[i],rfl,rfl,e2,?_,?_⟩⟩
   ·rw [List.length_map,List.length_take]; omega
   ·refine ⟨_,ex1 rfl ⟨s12.upd hp,?_⟩⟩
    rw [A7]
    unfold Zz
    rw [if_neg hnin,E2 hi',List.map_append]
    rfl
  ·rintro σ H1 ⟨v2,v3,rfl,s1,e1⟩
   exact k H1 s1
end
end Sw
namespace Sw
open PySem L2
theorem Gg (ss:List Str):(ss.map V.str).all Cs = true:=by
 rw [List.all_eq_true]
 intro v hv
 obtain ⟨x,_,rfl⟩:=List.mem_map.mp hv
 rfl
theorem Pp (x:Str) (ss:List Str):inV (.str x) (ss.map V.str) = decide (x ∈ ss):=by
 unfold inV
 rw [List.any_map]
 induction ss with
 | nil=>rfl
 | cons y r ih =>
  rw [List.any_cons,ih]
  show ((y == x) || decide (x ∈ r)) = decide (x ∈ y :: r)
  by_cases e:x = y
  ·subst e
   simp
  ·have:(y == x) = false:=by simpa using fun z=>e z.symm
   rw [this,Bool.false_or]
   by_cases h:x ∈ r
   ·rw [decide_eq_true h,decide_eq_true (List.mem_cons_of_mem _ h)]
   ·rw [decide_eq_false h,decide_eq_false (fun z=>(List.mem_cons.mp z).elim e h)]
theorem Z9 {K:PySem.W.Frag} {H:Hp} {p:Addr} {x:Str} {ss:List Str} {Q:VK} (h:Sqs K H p (ss.map V.str)) (q:Q (.bl (decide (x ∈ ss))) H):rIn K false (.str x) (.ref p) H Q :=
 ⟨p,_,rfl,h,rfl,Gg ss,by rw [if_neg (by decide),Pp]; exact q⟩
theorem J2 {K:PySem.W.Frag} {H:Hp} {p:Addr} {x:Str} {ss:List Str} {Q:VK} (h:Sqs K H p (ss.map V.str)) (q:Q (.bl (!decide (x ∈ ss))) H):rIn K true (.str x) (.ref p) H Q :=
 ⟨p,_,rfl,h,rfl,Gg ss,by rw [if_pos rfl,Pp]; exact q⟩
end Sw
namespace Sw
open PySem L2
section
variable {P:Program} {w:World} {K:PySem.W.Frag} {mg:Str->Option Value} {base:Heap}
theorem Fj:FnScope ["names", "thing"] ["names", "thing"] (B5 s_is_strike):=⟨rfl,rfl,rfl,by decide +kernel,rfl,by decide +kernel,by decide +kernel⟩
noncomputable def j9 (K:PySem.W.Frag):Sp:=fun vs H Q _=>∃ (p:Addr) (ss:List Str) (t:Addr) (x y:Str),vs = [.ref p,.ref t]/\Sqs K H p (ss.map V.str)/\H t = some (.tup [.str x,.str y])/\x ∈ ss/\y ∈ ss/\Q (.bl true) H
theorem Fa (T:Tx K mg):FnOk P w K mg base CX0 1 T.is_strike.f T.is_strike.fd ["names", "thing"] (j9 K):=by
 refine T.is_strike.F.ok Fj (fun vs H Q E h=>?_) (fun cdv A outer s H vs Q E hr h=>?_)
 ·obtain ⟨p,ss,t,x,y,rfl,_⟩:=h
  rfl
 ·obtain ⟨p,ss,t,x,y,rfl,hS,ht,hx,hy,k⟩:=h
  refine ⟨_,(B0 (I0 (PW.pt (Dx (U5 (M0 (D0 (K7 K) T.b_isinstance B8 (A6 (pv 1) (A6 (T7 T.b_tuple p8) A9))))) (W7 (B9 Ld (D0 (O7 K) T.b_len O3 (A6 (pv 1) A9)) B4 (C8 _))))) (B1 (C0 Gr)) C1)
   (B1 (C0 (g9 (I9 (Ku K) (E3 (ixT K) (pv 1) B4 (fun _ _=>rfl)) (pv 0) rfl) (u9 (I9 (Ku K) (E3 (ixT K) (pv 1) B4 (fun _ _=>rfl)) (pv 0) rfl)))))),?_⟩
  refine ex1 rfl ⟨_, "tuple",_,true,rfl,.tup ht,rfl,ex1 rfl ?_⟩
  refine O4 ?_
  refine ex1 rfl (B7 (a:=t) rfl (.inr (SqT.of ht)) ⟨rfl,ex1 rfl ?_⟩)
  refine O4 ?_
  refine ex1 rfl ⟨t,_,B7 rfl rfl ⟨SqT.of ht,rfl,ex1 rfl (Z9 hS ⟨_,rfl,?_⟩)⟩⟩
  rw [decide_eq_true hx]
  refine T6 ?_
  refine ex1 rfl ⟨t,_,B7 rfl rfl ⟨SqT.of ht,rfl,ex1 rfl (Z9 hS ?_)⟩⟩
  rw [decide_eq_true hy]
  exact k
structure StrkOk (ss:List Str) (ps:List PA2):Prop where
 nm:∀ q ∈ ps,q.2.1 ∈ ss/\q.2.2 ∈ ss
 nd:(ps.map fun q=>q.2).Nodup
 len:ps.length<=200
noncomputable def J9 (ps:List PA2):List V:=ps.map fun q=>V.ref q.1
noncomputable def Io (ps:List PA2):List (List Key × Addr):=ps.map fun q=>([.inr q.2.1,.inr q.2.2],q.1)
theorem Rz {H:Hp} {ps:List PA2} (h:∀ q ∈ ps,E6 H q):Ja H (Io ps):=fun k hk=>by
 obtain ⟨q,hq,rfl⟩:=List.mem_map.mp hk
 exact h q hq
theorem J3 {H H':Hp} {ps:List PA2} (s:Same H H') (h:∀ q ∈ ps,E6 H q):∀ q ∈ ps,E6 H' q:=fun q hq=>s _ _ (h q hq)
theorem R9:FnScope ["names", "strikes", "seen", "place", "strike"] ["names", "strikes"] (B5 s_check_strikes):=⟨rfl,rfl,rfl,by decide +kernel,rfl,by decide +kernel,by decide +kernel⟩
noncomputable def R1 (K:PySem.W.Frag):Sp:=fun vs H Q _=>∃ (p:Addr) (ss:List Str) (a:Addr) (ps:List PA2),vs = [.ref p,.ref a]/\Sqs K H p (ss.map V.str)/\SqL K H a (J9 ps)/\(∀ q ∈ ps,E6 H q)/\StrkOk ss ps/\∀ H',Same H H'->Q .non H'
theorem o0 (T:Tx K mg):FnOk P w K mg base CX0 2 T.check_strikes.f T.check_strikes.fd ["names", "strikes"] (R1 K):=by
 have G_is_strike:FnOk P w K mg base CX0 1 T.is_strike.f T.is_strike.fd ["names", "thing"] (j9 K):=Fa T
 have sc:=R9
 refine T.check_strikes.F.ok R9 (fun vs H Q E h=>?_) (fun cdv A outer s H vs Q E hr h=>?_)
 ·obtain ⟨p,ss,t,x,rfl,_⟩:=h
  rfl
 ·obtain ⟨n,ss,a,ps,rfl,hS,hP,hI,⟨hN,hD,hL⟩,k⟩:=h
  have hu:=Hg hr
  refine ⟨_,(B0 (C5 (i:=2) sc.nd rfl (by first | exact Or.inl rfl | exact Or.inr rfl) (Ci (Sa P w) (by rfl) T.b_set Pi))
   (B1 (S9 PassesOwn.never rfl (zCc K T.b_enumerate (A6 (pv 1) A9)) (pgT K (n:=2) (E5 (G9 (i:=3) sc.nd rfl (by first | exact Or.inl rfl | exact Or.inr rfl)) (E5 (G9 (i:=4) sc.nd rfl (by first | exact Or.inl rfl | exact Or.inr rfl)) T2)))
   (B0 (I0 (PW.pt (Dx (U5 (M0 (E4 T.is_strike G_is_strike (hr.mono (by decide)) (A6 (pv 0) (A6 (pv 4) A9))))) (W7 (B9 (zAp P w hu) (pv 4) (pv 2) rfl)))) (B1 X3) C1)
   (B1 (C7 (Tq P w (Yy P w hu) (pv 2) (A6 (pv 4) A9)))))))),?_⟩
  refine ⟨rfl,fun p hp=>?_⟩
  have s0:Same H (upd H p (Ly P w p [])):=Same.new hp
  refine ex1 rfl ⟨a,ex1 rfl (.inl ⟨(s0.at a).seqL hP,Uz (n:=ps.length) (fun i σ H1=>∃ v3 v4,σ = [some (.ref n),some (.ref a),some (.ref p),v3,v4]/\Same H H1/\H1 p = some (Ly P w p (Io (ps.take i)))) ⟨_,_,rfl,s0,A7⟩ ?_ ?_ ?_ ?_⟩)⟩
  ·rintro i σ H1 hi ⟨v2,v3,rfl,s1,e1⟩
   exact ⟨_,_,(s1.at a).seqL hP,by unfold J9; rw [List.getElem?_map,List.getElem?_eq_getElem hi]; rfl⟩
  ·rintro σ H1 ⟨v2,v3,rfl,s1,e1⟩
   exact ⟨_,(s1.at a).seqL hP,by unfold J9; rw [List.length_map]⟩
  ·rintro i σ H1 v H' hi ⟨v2,v3,rfl,s1,e1⟩ ⟨t,x,rfl,ht,rfl,hx⟩
   have hx:=hx _ ((s1.at a).seqL hP)
   have hi':ps[i]? = some ps[i]:=List.getElem?_eq_getElem hi
   unfold J9 at hx
   rw [List.getElem?_map,hi'] at hx
   cases hx
   have hm:ps[i] ∈ ps:=List.getElem_mem hi
   obtain ⟨hn1,hn2⟩:=hN _ hm
   have npt:p ≠ t:=A8 e1 ht
   have s2:Same H (upd H1 t (.tup [.int i,.ref ps[i].1])):=s1.trans (Same.new ht)
   have hq:=s2 _ _ (hI _ hm)
   refine ⟨t,ex1 rfl ⟨SqT.of A7,rfl,_,ex1 rfl (B7 rfl rfl ?_)⟩⟩
   refine ex1 rfl (ex1 rfl ⟨n,ss,ps[i].1,ps[i].2.1,ps[i].2.2,rfl,(s2.at n).seq hS,hq,hn1,hn2,ex1 rfl ?_⟩)
   refine O4 ?_
   have e2:(upd H1 t (.tup [.int i,.ref ps[i].1])) p = some (Ly P w p (Io (ps.take i))):=by rw [B2 npt]; exact e1
   have hin:Ja (upd H1 t (.tup [.int i,.ref ps[i].1])) (Io (ps.take i)):=Rz (J3 s2 fun q hq=>hI q (List.mem_of_mem_take hq))
   have hne:∀ q ∈ Io (ps.take i),q.1 ≠ [.inr ps[i].2.1,.inr ps[i].2.2]:=fun q hq e=>by
    obtain ⟨z,hz,rfl⟩:=List.mem_map.mp hq
    have e':z.2 = ps[i].2:=by
     obtain ⟨z1,z2,z3⟩:=z
     simp only [List.cons.injEq,Sum.inr.injEq,and_true] at e
     exact Prod.ext e.1 e.2
    have h1:(ps.map fun q=>q.2)[i]? = some ps[i].2:=by rw [List.getElem?_map,hi']; rfl
    refine Cf hD h1 ?_
    rw [<-List.map_take,<-e']
    exact List.mem_map.mpr ⟨z,hz,rfl⟩
   refine ex1 rfl (ex1 rfl ⟨p,ps[i].1,_,[.inr ps[i].2.1,.inr ps[i].2.2],rfl,rfl,e2,hq,hin,hne,ex1 rfl ?_⟩)
   refine O4 ?_
   refine ex1 rfl ⟨⟨p,rfl,.inr (.inr ⟨_,e2⟩)⟩,ex1 rfl ⟨p,ps[i].1,_,[.inr ps[i].2.1,.inr ps[i].2.2],rfl,rfl,e2,hq,hin,hne,?_,?_⟩⟩
   ·unfold Io; rw [List.length_map,List.length_take]; omega
   ·refine ⟨_,ex1 rfl ⟨s2.upd hp,?_⟩⟩
    rw [A7,E2 hi']
    unfold Io
    rw [List.map_append]
    rfl
  ·rintro σ H1 ⟨v2,v3,rfl,s1,e1⟩
   exact k H1 s1
end
end Sw
namespace Sw
open PySem L2
noncomputable def la (kvs:List (Key × V)) (n:Str):Addr:=match f9 kvs (.inr n) with | some (.ref l)=>l | _=>0
theorem Pz (kvs:List (Key × V)) (n m:Str) (v:V):f9 (Mg kvs (Sum.inr n:Key) v) (.inr m) = if m = n then some v else f9 kvs (.inr m):=by
 rw [Rn]
 by_cases e:m = n
 ·rw [if_pos e,if_pos (by rw [e])]
 ·rw [if_neg e,if_neg (fun z=>e (Sum.inr.inj z))]
theorem By (kvs:List (Key × V)) (n m:Str) (p:Addr):la (Mg kvs (.inr n) (.ref p)) m = if m = n then p else la kvs m:=by
 unfold la
 rw [Pz]
 by_cases e:m = n
 ·rw [if_pos e,if_pos e]
 ·rw [if_neg e,if_neg e]
structure DOk (H0:Hp) (kvs:List (Key × V)) (ns:List Str):Prop where
 val:∀ n ∈ ns,f9 kvs (.inr n) = some (.ref (la kvs n))
 inj:∀ n ∈ ns,∀ m ∈ ns,la kvs n = la kvs m->n = m
 fr:∀ n ∈ ns,H0 (la kvs n) = none
theorem Ub {K:PySem.W.Frag} {J:It} {a:Addr} {ns:List Str} {H:Hp} {σ:St} {Q:St->Hp->Prop} (as:AsSeq J (ns.map V.str) a H) (hσ:∃ v,σ = [v]) (nd:ns.Nodup) (hl:ns.length<=1000) {D:Addr} (hD:H D = none)
  (q:∀ σ kvs H',Same H H'->H' D = some (.dK kvs)->DOk H kvs ns->(∀ n ∈ ns,H' (la kvs n) = some (.lst []))->(∀ n ∈ ns,la kvs n ≠ D)->Q σ H') :
  Ha (T9 0) Sd (Ve D (Mj 0) (zCd Tv)) J σ (upd H D (.dK [])) Q:=by
 obtain ⟨v,rfl⟩:=hσ
 refine Q3 as (fun i σ H1=>(∃ v,σ = [v])/\∃ kvs,Same H H1/\H1 D = some (.dK kvs)/\kvs.length<=i/\DOk H kvs (ns.take i)/\(∀ n ∈ ns.take i,H1 (la kvs n) = some (.lst []))/\∀ n ∈ ns.take i,la kvs n ≠ D)
  ⟨⟨v,rfl⟩,[],Same.new hD,A7,Nat.zero_le _,⟨fun n h=>by simp at h,fun n h=>by simp at h,fun n h=>by simp at h⟩,fun n h=>by simp at h,fun n h=>by simp at h⟩ (fun i σ H1 _ ⟨_,kvs,s1,_⟩=>s1.at a) ?_ ?_
 ·rintro i σ H1 x N hx ⟨⟨v,rfl⟩,kvs,s1,e1,l1,D1,c1,n1⟩ hN
  rw [List.getElem?_map] at hx
  have hi:i < ns.length:=by
   rcases Nat.lt_or_ge i ns.length with z | z
   ·exact z
   ·rw [List.getElem?_eq_none z] at hx; cases hx
  have hi':ns[i]? = some ns[i]:=List.getElem?_eq_getElem hi
  rw [hi'] at hx
  cases hx
  refine b8 ?_
  refine ex1 rfl ⟨Nat.zero_le _,fun p hp=>?_⟩
  have npD:D ≠ p:=A8 e1 hp
  refine ⟨kvs,.inr ns[i],by rw [B2 npD]; exact e1,rfl,by rw [sizeLine_eq]; omega,hN _ _ ⟨⟨_,rfl⟩,Mg kvs (.inr ns[i]) (.ref p),?_,A7,?_,⟨?_,?_,?_⟩,?_,?_⟩⟩
  ·exact (s1.trans (Same.new hp)).upd hD
  ·have:=Ae kvs (Sum.inr ns[i]:Key) (.ref p)
   omega
  all_goals rw [E2 hi']
  ·intro n hn
   rw [Pz,By]
   by_cases e:n = ns[i]
   ·rw [if_pos e,if_pos e]
   ·rw [if_neg e,if_neg e]
    rcases List.mem_append.mp hn with z | z
    ·exact D1.val n z
    ·exact absurd (List.mem_singleton.mp z) e
  ·intro n hn m hm
   rw [By,By]
   have old:∀ k ∈ ns.take i ++ [ns[i]],k ≠ ns[i]->k ∈ ns.take i:=fun k hk e=>(List.mem_append.mp hk).elim id fun z=>absurd (List.mem_singleton.mp z) e
   by_cases e:n = ns[i]
   ·by_cases e':m = ns[i]
    ·exact fun _=>e.trans e'.symm
    ·rw [if_pos e,if_neg e']
     intro z
     have:=c1 m (old m hm e')
     rw [<-z,hp] at this; cases this
   ·by_cases e':m = ns[i]
    ·rw [if_neg e,if_pos e']
     intro z
     have:=c1 n (old n hn e)
     rw [z,hp] at this; cases this
    ·rw [if_neg e,if_neg e']
     exact D1.inj n (old n hn e) m (old m hm e')
  ·intro n hn
   rw [By]
   by_cases e:n = ns[i]
   ·rw [if_pos e]; exact s1.free hp
   ·rw [if_neg e]
    rcases List.mem_append.mp hn with z | z
    ·exact D1.fr n z
    ·exact absurd (List.mem_singleton.mp z) e
  ·intro n hn
   rw [By]
   by_cases e:n = ns[i]
   ·rw [if_pos e,B2 npD.symm,A7]
   ·rw [if_neg e]
    rcases List.mem_append.mp hn with z | z
    ·rw [B2 (n1 n z),B2 (A8 (c1 n z) hp)]
     exact c1 n z
    ·exact absurd (List.mem_singleton.mp z) e
  ·intro n hn
   rw [By]
   by_cases e:n = ns[i]
   ·rw [if_pos e]; exact npD.symm
   ·rw [if_neg e]
    rcases List.mem_append.mp hn with z | z
    ·exact n1 n z
    ·exact absurd (List.mem_singleton.mp z) e
 ·rintro σ H1 ⟨_,kvs,s1,e1,l1,D1,c1,n1⟩
  rw [List.length_map] at *
  rw [List.take_length] at *
  exact q σ kvs H1 s1 e1 D1 c1 n1
end Sw
namespace Sw
open PySem L2
noncomputable def B3 (qs:List PA2) (n:Str):List Str:=(qs.filter fun q=>decide (q.2.2 = n)).map fun q=>q.2.1
noncomputable def D6 (qs:List PA2) (n:Str):List Str:=(qs.filter fun q=>decide (q.2.1 = n)).map fun q=>q.2.2
theorem p9 (qs:List PA2) (q:PA2) (n:Str):B3 (qs ++ [q]) n = B3 qs n ++ (if q.2.2 = n then [q.2.1] else []):=by
 unfold B3
 rw [List.filter_append,List.map_append]
 by_cases e:q.2.2 = n
 ·rw [if_pos e,List.filter_cons,if_pos (decide_eq_true e)]; rfl
 ·rw [if_neg e,List.filter_cons,if_neg (by simp [e])]; rfl
theorem Dq (qs:List PA2) (q:PA2) (n:Str):D6 (qs ++ [q]) n = D6 qs n ++ (if q.2.1 = n then [q.2.2] else []):=by
 unfold D6
 rw [List.filter_append,List.map_append]
 by_cases e:q.2.1 = n
 ·rw [if_pos e,List.filter_cons,if_pos (decide_eq_true e)]; rfl
 ·rw [if_neg e,List.filter_cons,if_neg (by simp [e])]; rfl
noncomputable def wf (a b c d:Addr):List (Str × V):=[("names",.ref a),("strikes",.ref b),("strikers_by_name",.ref c),("struck_by_name",.ref d)]
structure WebOk (ns:List Str) (qs:List PA2):Prop where
 nd:ns.Nodup
 len:ns.length<=100
 srt:ns.Pairwise leS
 mem:∀ q ∈ qs,q.2.1 ∈ ns/\q.2.2 ∈ ns
 ndq:(qs.map fun q=>q.2).Nodup
 lenq:qs.length<=200
 srq:qs.Pairwise leP
structure WebAt (C:Addr) (H:Hp) (x:Addr) (ns:List Str) (qs:List PA2):Prop where
 ok:WebOk ns qs
 ex:∃ dx a b c d kc kd,H x = some (.ins C dx (wf a b c d))/\H a = some (.lst (ns.map V.str))/\H b = some (.lst (J9 qs))/\(∀ q ∈ qs,E6 H q)/\H c = some (.dK kc)/\H d = some (.dK kd) /\
  (∀ n ∈ ns,∃ l,f9 kc (.inr n) = some (.ref l)/\H l = some (.lst ((B3 qs n).map V.str)))/\∀ n ∈ ns,∃ l,f9 kd (.inr n) = some (.ref l)/\H l = some (.lst ((D6 qs n).map V.str))
section
variable {P:Program} {w:World} {K:PySem.W.Frag} {mg:Str->Option Value} {base:Heap}
theorem S5:FnScope ["self", "names", "strikes", "one", "other"] ["self", "names", "strikes"] (B5 s_Web___init__):=⟨rfl,rfl,rfl,by decide +kernel,rfl,by decide +kernel,by decide +kernel⟩
noncomputable def V0 (K:PySem.W.Frag) (C:Addr):Sp:=fun vs H Q _=>∃ (x dx n:Addr) (ss:List Str) (a:Addr) (ps:List PA2),vs = [.ref x,.ref n,.ref a]/\H x = some (.ins C dx [])/\Sqs K H n (ss.map V.str)/\S8 ss /\
 H a = some (.lst (J9 ps))/\(∀ q ∈ ps,E6 H q)/\StrkOk ss ps/\∀ ns qs H',ns.Perm ss->ns.Pairwise leS->qs.Perm ps->qs.Pairwise leP->Sm [x] H H'->WebAt C H' x ns qs->(∀ z zs u,H z = some (.lst zs)->WebAt C (upd H' z u) x ns qs)->Q .non H'
theorem Ad (T:Tx K mg):FnOk P w K mg base CX0 3 T.fWeb___init__ T.fdWeb___init__ ["self", "names", "strikes"] (V0 K T.CWeb):=by
 have G_check_names:FnOk P w K mg base CX0 2 T.check_names.f T.check_names.fd ["names"] (U4 K):=Bc T
 have G_check_strikes:FnOk P w K mg base CX0 2 T.check_strikes.f T.check_strikes.fd ["names", "strikes"] (R1 K):=o0 T
 have sc:=S5
 refine T.FWeb___init__.ok S5 (fun vs H Q E h=>?_) (fun cdv A outer s H vs Q E hr h=>?_)
 ·obtain ⟨x,dx,n,ss,a,ps,rfl,_⟩:=h
  rfl
 ·obtain ⟨x,dx,n,ss,a,ps,rfl,hx,hS,hN,hP,hI,hO,k⟩:=h
  have hu:=Hg hr
  refine ⟨_,(B0 (C7 (E4 T.check_names G_check_names (hr.mono (by decide)) (A6 (pv 1) A9)))
   (B0 (C7 (E4 T.check_strikes G_check_strikes (hr.mono (by decide)) (A6 (pv 1) (A6 (pv 2) A9))))
   (B0 (psF K (pv 0) (D0 (Ro K) T.b_sorted Q5 (A6 (pv 1) A9)))
   (B0 (psF K (pv 0) (D0 (Qs K) T.b_sorted Q5 (A6 (pv 2) A9)))
   (B0 (psF K (pv 0) (Xn (N':=["name"]) (cap:=[none]) (cl:=[]) (V2 trivial trivial) rfl (piL K (peF K (pv 0))) (fun _ _ _ _=>by exact ⟨(pgC 0),O9,(pv 0),(G8 A9)⟩)))
   (B0 (psF K (pv 0) (Xn (N':=["name"]) (cap:=[none]) (cl:=[]) (V2 trivial trivial) rfl (piL K (peF K (pv 0))) (fun _ _ _ _=>by exact ⟨(pgC 0),O9,(pv 0),(G8 A9)⟩)))
   (B1 (S9 PassesOwn.never rfl (piL K (peF K (pv 0))) (pgT K (n:=2) (E5 (G9 (i:=3) sc.nd rfl (by first | exact Or.inl rfl | exact Or.inr rfl)) (E5 (G9 (i:=4) sc.nd rfl (by first | exact Or.inl rfl | exact Or.inr rfl)) T2)))
   (B0 (C7 (Iy K PySem.F.plainAttrs_list PySem.F.slot_list_append PySem.F.type_list_append E8 (Cu hu (peF K (pv 0)) (pv 4) (fun _ _=>rfl)) (A6 (pv 3) A9)))
   (B1 (C7 (Iy K PySem.F.plainAttrs_list PySem.F.slot_list_append PySem.F.type_list_append E8 (Cu hu (peF K (pv 0)) (pv 3) (fun _ _=>rfl)) (A6 (pv 4) A9))))))))))))),?_⟩
  obtain ⟨hN1,hN2,hN3⟩:=id hN
  obtain ⟨hO1,hO2,hO3⟩:=id hO
  refine B6 fun Z1 hZ1=>?_
  refine ex1 rfl ⟨n,ss,rfl,hS,hN,fun H1 s1=>?_⟩
  refine hZ1 _ _ (B6 fun Z2 hZ2=>?_)
  refine ex1 rfl (ex1 rfl ⟨n,ss,a,ps,rfl,(s1.at n).seq hS,SqL.of (s1 _ _ hP),J3 s1 hI,hO,fun H2 s2=>?_⟩)
  refine hZ2 _ _ (B6 fun Z3 hZ3=>?_)
  have s12:=s1.trans s2
  refine ex1 rfl ⟨n,ss,rfl,(s12.at n).seq hS,fun l1 ns hl1 p1 w1=>?_⟩
  have nx1:x ≠ l1:=A8 (s12 _ _ hx) hl1
  refine ex1 rfl ⟨x,T.CWeb,dx,[],rfl,by rw [B2 nx1]; exact s12 _ _ hx,T.clWeb,T.nWeb_names,by decide,?_⟩
  have hxa:a ≠ x:=M8 hP hx (by intro z; cases z)
  have k3:Sm [x] H (upd (upd H2 l1 (.lst (ns.map V.str))) x (.ins T.CWeb dx (R0 "names" (.ref l1) []))):=(Sm.new s12.sm hl1).upd (by simp)
  have e3:(upd (upd H2 l1 (.lst (ns.map V.str))) x (.ins T.CWeb dx (R0 "names" (.ref l1) []))) l1 = some (.lst (ns.map V.str)):=by rw [B2 nx1.symm,A7]
  generalize hH3:upd (upd H2 l1 (.lst (ns.map V.str))) x (.ins T.CWeb dx (R0 "names" (.ref l1) [])) = H3 at k3 e3 ⊢
  refine hZ3 _ _ (B6 fun Z4 hZ4=>?_)
  have x3:H3 x = some (.ins T.CWeb dx [("names",.ref l1)]):=by rw [<-hH3,A7]; rfl
  have nin:∀ {b:Addr},b ≠ x->b ∉ [x]:=fun h z=>h (List.mem_singleton.mp z)
  have pin3:∀ q ∈ ps,E6 H3 q:=fun q hq=>k3 _ _ (hI q hq) (nin (M8 (hI q hq) hx (by intro z; cases z)))
  refine ex1 rfl ⟨a,ps,rfl,SqL.of (k3 _ _ hP (nin hxa)),pin3,fun l2 qs hl2 p2 w2=>?_⟩
  have nx2:x ≠ l2:=A8 x3 hl2
  refine ex1 rfl ⟨x,T.CWeb,dx,[("names",.ref l1)],rfl,by rw [B2 nx2]; exact x3,T.clWeb,T.nWeb_strikes,by simp,?_⟩
  have k4:Sm [x] H3 (upd (upd H3 l2 (.lst (J9 qs))) x (.ins T.CWeb dx (R0 "strikes" (.ref l2) [("names",.ref l1)]))):=(Sm.new (Sm.refl _ _) hl2).upd (by simp)
  have e4:(upd (upd H3 l2 (.lst (J9 qs))) x (.ins T.CWeb dx (R0 "strikes" (.ref l2) [("names",.ref l1)]))) l2 = some (.lst (J9 qs)):=by rw [B2 nx2.symm,A7]
  have x4:(upd (upd H3 l2 (.lst (J9 qs))) x (.ins T.CWeb dx (R0 "strikes" (.ref l2) [("names",.ref l1)]))) x = some (.ins T.CWeb dx [("names",.ref l1),("strikes",.ref l2)]):=by rw [A7]; rfl
  refine hZ4 _ _ ?_
  show Uu _ _ _ _ (upd (upd H3 l2 (.lst (J9 qs))) x (.ins T.CWeb dx (R0 "strikes" (.ref l2) [("names",.ref l1)])))
  generalize upd (upd H3 l2 (.lst (J9 qs))) x (.ins T.CWeb dx (R0 "strikes" (.ref l2) [("names",.ref l1)])) = H4 at k4 e4 x4 ⊢
  have f4:H4 l1 = some (.lst (ns.map V.str)):=k4 _ _ e3 (nin nx1.symm)
  have pin4:∀ q ∈ qs,E6 H4 q:=fun q hq=>k4 _ _ (pin3 q (p2.mem_iff.mp hq)) (nin (M8 (pin3 q (p2.mem_iff.mp hq)) x3 (by intro z; cases z)))
  have ndn:ns.Nodup:=p1.nodup_iff.mpr hN2
  have lnn:ns.length<=1000:=by rw [p1.length_eq]; omega
  refine B6 fun Z5 hZ5=>?_
  refine ex1 rfl ⟨x,T.CWeb,dx,_,ex1 rfl ⟨x4,T.clWeb,T.nWeb_names,rfl,l1,rfl,⟨_,SqL.of f4⟩,fun c hc=>Ub (K:=K) (asL (SqL.of f4)) ⟨_,rfl⟩ ndn lnn hc fun _ kc H5 s5 e5 D5 c5 n5=>?_⟩⟩
  have x5:=s5 _ _ x4
  refine ex1 rfl ⟨x,T.CWeb,dx,ex1 rfl ⟨x5,T.clWeb,T.nWeb_strikers_by_name,by simp,?_⟩⟩
  have k6:Sm [x] H5 (upd H5 x (.ins T.CWeb dx (R0 "strikers_by_name" (.ref c) [("names",.ref l1),("strikes",.ref l2)]))):=(Sm.refl _ _).upd (by simp)
  have x6:(upd H5 x (.ins T.CWeb dx (R0 "strikers_by_name" (.ref c) [("names",.ref l1),("strikes",.ref l2)]))) x = some (.ins T.CWeb dx [("names",.ref l1),("strikes",.ref l2),("strikers_by_name",.ref c)]):=by rw [A7]; rfl
  generalize upd H5 x (.ins T.CWeb dx (R0 "strikers_by_name" (.ref c) [("names",.ref l1),("strikes",.ref l2)])) = H6 at k6 x6 ⊢
  refine hZ5 _ _ (B6 fun Z6 hZ6=>?_)
  have kk6:∀ {b:Addr} {o:HO},H4 b = some o->b ≠ x->H6 b = some o:=fun e hb=>k6 _ _ (s5 _ _ e) (nin hb)
  have f6:=kk6 f4 nx1.symm
  have g6:=kk6 e4 nx2.symm
  have c6:H6 c = some (.dK kc):=k6 _ _ e5 (nin (A8 x4 hc).symm)
  have cl6:∀ n ∈ ns,H6 (la kc n) = some (.lst []):=fun n hn=>k6 _ _ (c5 n hn) (nin (A8 x4 (D5.fr n hn)).symm)
  refine ex1 rfl ⟨x,T.CWeb,dx,_,ex1 rfl ⟨x6,T.clWeb,T.nWeb_names,rfl,l1,rfl,⟨_,SqL.of f6⟩,fun d hd=>Ub (K:=K) (asL (SqL.of f6)) ⟨_,rfl⟩ ndn lnn hd fun _ kd H7 s7 e7 D7 c7 n7=>?_⟩⟩
  have x7:=s7 _ _ x6
  refine ex1 rfl ⟨x,T.CWeb,dx,ex1 rfl ⟨x7,T.clWeb,T.nWeb_struck_by_name,by simp,?_⟩⟩
  have k8:Sm [x] H7 (upd H7 x (.ins T.CWeb dx (R0 "struck_by_name" (.ref d) [("names",.ref l1),("strikes",.ref l2),("strikers_by_name",.ref c)]))):=(Sm.refl _ _).upd (by simp)
  have x8:(upd H7 x (.ins T.CWeb dx (R0 "struck_by_name" (.ref d) [("names",.ref l1),("strikes",.ref l2),("strikers_by_name",.ref c)]))) x = some (.ins T.CWeb dx (wf l1 l2 c d)):=by rw [A7]; rfl
  generalize upd H7 x (.ins T.CWeb dx (R0 "struck_by_name" (.ref d) [("names",.ref l1),("strikes",.ref l2),("strikers_by_name",.ref c)])) = H8 at k8 x8 ⊢
  refine hZ6 _ _ ?_
  have kk8:∀ {b:Addr} {o:HO},H6 b = some o->b ≠ x->H8 b = some o:=fun e hb=>k8 _ _ (s7 _ _ e) (nin hb)
  have f8:=kk8 f6 nx1.symm
  have g8:=kk8 g6 nx2.symm
  have c8:=kk8 c6 (A8 x4 hc).symm
  have d8:H8 d = some (.dK kd):=k8 _ _ e7 (nin (A8 x6 hd).symm)
  have cl8:∀ n ∈ ns,H8 (la kc n) = some (.lst []):=fun n hn=>kk8 (cl6 n hn) (A8 x4 (D5.fr n hn)).symm
  have dl8:∀ n ∈ ns,H8 (la kd n) = some (.lst []):=fun n hn=>k8 _ _ (c7 n hn) (nin (A8 x6 (D7.fr n hn)).symm)
  have pin8:∀ q ∈ qs,E6 H8 q:=fun q hq=>kk8 (kk6 (pin4 q hq) (M8 (pin4 q hq) x4 (by intro z; cases z))) (M8 (pin4 q hq) x4 (by intro z; cases z))
  have dif:∀ n ∈ ns,∀ m ∈ ns,la kc n ≠ la kd m:=fun n hn m hm=>A8 (cl6 n hn) (D7.fr m hm)
  have old4:∀ {b:Addr} {o:HO},H4 b = some o->b ≠ x->(∀ n ∈ ns,b ≠ la kc n)/\∀ n ∈ ns,b ≠ la kd n:=fun e hb=>⟨fun n hn=>A8 e (D5.fr n hn),fun n hn=>A8 (kk6 e hb) (D7.fr n hn)⟩
  have kall:Sm [x] H H8:=fun b o e hb=>by
   have hb':b ≠ x:=fun z=>hb (by simp [z])
   exact kk8 (kk6 (k4 _ _ (k3 _ _ e hb) hb) hb') hb'
  have odif:∀ {b:Addr} {o:HO},H b = some o->b ≠ x->(∀ n ∈ ns,b ≠ la kc n)/\∀ n ∈ ns,b ≠ la kd n:=fun e hb=>old4 (k4 _ _ (k3 _ _ e (nin hb)) (nin hb)) hb
  have xdif:(∀ n ∈ ns,x ≠ la kc n)/\∀ n ∈ ns,x ≠ la kd n:=⟨fun n hn=>A8 x4 (D5.fr n hn),fun n hn=>A8 x6 (D7.fr n hn)⟩
  have cdif:(∀ n ∈ ns,c ≠ la kc n)/\∀ n ∈ ns,c ≠ la kd n:=⟨fun n hn=>(n5 n hn).symm,fun n hn=>A8 c6 (D7.fr n hn)⟩
  have ddif:(∀ n ∈ ns,d ≠ la kc n)/\∀ n ∈ ns,d ≠ la kd n:=⟨fun n hn=>(A8 (cl6 n hn) hd).symm,fun n hn=>(n7 n hn).symm⟩
  refine ⟨_,rfl,x,T.CWeb,dx,_,_,rfl,x8,T.clWeb,T.nWeb_strikes,rfl,l2,rfl,⟨_,SqL.of g8⟩,Ed (asL (SqL.of g8)) (fun i σ H9=>(∃ v3 v4,σ = [some (.ref x),some (.ref n),some (.ref a),v3,v4]) /\
   (∀ b o,H8 b = some o->((∀ n ∈ ns,b ≠ la kc n)/\∀ n ∈ ns,b ≠ la kd n)->H9 b = some o)/\(∀ n ∈ ns,H9 (la kc n) = some (.lst ((B3 (qs.take i) n).map V.str)))/\∀ n ∈ ns,H9 (la kd n) = some (.lst ((D6 (qs.take i) n).map V.str)))
   ⟨⟨_,_,rfl⟩,fun b o e _=>e,cl8,dl8⟩ ?_ ?_ ?_⟩
  ·rintro i σ H9 _ ⟨_,h1,_⟩ o e
   exact h1 _ _ e (old4 e4 nx2.symm)
  ·rintro i σ H9 v hv ⟨⟨v3,v4,rfl⟩,h1,h2,h3⟩ D1 hD1 _
   unfold J9 at hv
   rw [List.getElem?_map] at hv
   cases hq:qs[i]? with
   | none=>rw [hq] at hv; cases hv
   | some q =>
    rw [hq] at hv
    cases hv
    have hm:q ∈ qs:=List.mem_of_getElem? hq
    have hq9:E6 H9 q:=h1 _ _ (pin8 q hm) (old4 (pin4 q hm) (M8 (pin4 q hm) x4 (by intro z; cases z)))
    obtain ⟨m1,m2⟩:=hO1 q (p2.mem_iff.mp hm)
    have m1:q.2.1 ∈ ns:=p1.mem_iff.mpr m1
    have m2:q.2.2 ∈ ns:=p1.mem_iff.mpr m2
    have hlen:∀ l:List PA2,l.length<=200->∀ n,(B3 l n).length<=200/\(D6 l n).length<=200:=fun l hl n=>by
     unfold B3 D6
     rw [List.length_map,List.length_map]
     exact ⟨Nat.le_trans (List.length_filter_le ..) hl,Nat.le_trans (List.length_filter_le ..) hl⟩
    have hl200:(qs.take i).length<=200:=by
     rw [List.length_take]
     have:=p2.length_eq
     omega
    have x9:H9 x = some (.ins T.CWeb dx (wf l1 l2 c d)):=h1 _ _ x8 xdif
    refine ⟨q.1,ex1 rfl ⟨SqT.of hq9,rfl,_,ex1 rfl (B7 rfl rfl ?_)⟩⟩
    refine ex1 rfl ⟨x,T.CWeb,dx,_,ex1 rfl ⟨x9,T.clWeb,T.nWeb_strikers_by_name,rfl,ex1 rfl ⟨c,.ref (la kc q.2.2),rfl,by rw [<-D5.val _ m2]; exact DGet.k (k:=Sum.inr q.2.2) (h1 _ _ c8 cdif),.inl ⟨rfl,_,SqL.of (h2 _ m2)⟩,ex1 rfl ⟨_,B7 rfl rfl ⟨h2 _ m2,?_,?_⟩⟩⟩⟩⟩
    ·rw [List.length_map,sizeLine_eq]
     have:=(hlen _ hl200 q.2.2).1
     omega
    have x10:(upd H9 (la kc q.2.2) (.lst ((B3 (qs.take i) q.2.2).map V.str ++ [.str q.2.1]))) x = some (.ins T.CWeb dx (wf l1 l2 c d)):=by rw [B2 (xdif.1 _ m2)]; exact x9
    have d10:(upd H9 (la kc q.2.2) (.lst ((B3 (qs.take i) q.2.2).map V.str ++ [.str q.2.1]))) d = some (.dK kd):=by rw [B2 (ddif.1 _ m2)]; exact h1 _ _ d8 ddif
    have l10:(upd H9 (la kc q.2.2) (.lst ((B3 (qs.take i) q.2.2).map V.str ++ [.str q.2.1]))) (la kd q.2.1) = some (.lst ((D6 (qs.take i) q.2.1).map V.str)):=by rw [B2 (dif _ m2 _ m1).symm]; exact h3 _ m1
    refine ex1 rfl ⟨x,T.CWeb,dx,_,ex1 rfl ⟨x10,T.clWeb,T.nWeb_struck_by_name,rfl,ex1 rfl ⟨d,.ref (la kd q.2.1),rfl,by rw [<-D7.val _ m1]; exact DGet.k (k:=Sum.inr q.2.1) d10,.inl ⟨rfl,_,SqL.of l10⟩,ex1 rfl ⟨_,B7 rfl rfl ⟨l10,?_,?_⟩⟩⟩⟩⟩
    ·rw [List.length_map,sizeLine_eq]
     have:=(hlen _ hl200 q.2.1).2
     omega
    refine hD1 _ _ ⟨⟨_,_,rfl⟩,fun b o e hb=>?_,fun m hm=>?_,fun m hm=>?_⟩
    ·rw [B2 (hb.2 _ m1),B2 (hb.1 _ m2)]
     exact h1 b o e hb
    ·rw [B2 (dif m hm _ m1),E2 hq,p9]
     by_cases e:q.2.2 = m
     ·rw [<-e,A7,if_pos rfl,List.map_append]; rfl
     ·rw [if_neg e,List.append_nil,B2 (fun z=>e (D5.inj _ hm _ m2 z).symm)]
      exact h2 m hm
    ·rw [E2 hq,Dq]
     by_cases e:q.2.1 = m
     ·rw [<-e,A7,if_pos rfl,List.map_append]; rfl
     ·rw [if_neg e,List.append_nil,B2 (fun z=>e (D7.inj _ hm _ m1 z).symm),B2 (dif _ m2 _ hm).symm]
      exact h3 m hm
  ·rintro σ H9 ⟨_,h1,h2,h3⟩
   have hlq:(J9 qs).length = qs.length:=by unfold J9; rw [List.length_map]
   rw [hlq,List.take_length] at h2 h3
   have mk:∀ G:Hp,(∀ b o,H9 b = some o->(b = x\/b = l1\/b = l2\/b = c\/b = d\/(∃ q ∈ qs,b = q.1)\/(∃ n ∈ ns,b = la kc n)\/∃ n ∈ ns,b = la kd n)->G b = some o)->WebAt T.CWeb G x ns qs:=fun G g =>
    ⟨⟨ndn,by rw [p1.length_eq]; exact hN3,w1,fun q hq=>⟨p1.mem_iff.mpr (hO1 q (p2.mem_iff.mp hq)).1,p1.mem_iff.mpr (hO1 q (p2.mem_iff.mp hq)).2⟩,(p2.map _).nodup_iff.mpr hO2,by rw [p2.length_eq]; exact hO3,w2⟩,dx,l1,l2,c,d,kc,kd,g _ _ (h1 _ _ x8 xdif) (.inl rfl),g _ _ (h1 _ _ f8 (old4 f4 nx1.symm)) (.inr (.inl rfl)),g _ _ (h1 _ _ g8 (old4 e4 nx2.symm)) (.inr (.inr (.inl rfl))),
     fun q hm=>g _ _ (h1 _ _ (pin8 q hm) (old4 (pin4 q hm) (M8 (pin4 q hm) x4 (by intro z; cases z)))) (.inr (.inr (.inr (.inr (.inr (.inl ⟨q,hm,rfl⟩)))))),g _ _ (h1 _ _ c8 cdif) (.inr (.inr (.inr (.inl rfl)))),g _ _ (h1 _ _ d8 ddif) (.inr (.inr (.inr (.inr (.inl rfl))))),
     fun n hn=>⟨_,D5.val n hn,g _ _ (h2 n hn) (.inr (.inr (.inr (.inr (.inr (.inr (.inl ⟨n,hn,rfl⟩)))))))⟩,fun n hn=>⟨_,D7.val n hn,g _ _ (h3 n hn) (.inr (.inr (.inr (.inr (.inr (.inr (.inr ⟨n,hn,rfl⟩)))))))⟩⟩
   refine k ns qs H9 p1 w1 p2 w2 (fun b o e hb=>?_) (mk H9 fun b o e _=>e) fun z zs u hz=>mk _ fun b o e hb=>?_
   ·have hb':b ≠ x:=fun z=>hb (by simp [z])
    exact h1 _ _ (kall b o e hb) (odif e hb')
   ·have zx:z ≠ x:=M8 hz hx (by intro y; cases y)
    have z3:=k3 _ _ hz (nin zx)
    have z4:=k4 _ _ z3 (nin zx)
    have nz:b ≠ z:=by
     rcases hb with rfl | rfl | rfl | rfl | rfl | ⟨q,hq,rfl⟩ | ⟨n,hn,rfl⟩ | ⟨n,hn,rfl⟩
     ·exact zx.symm
     ·exact (A8 (s12 _ _ hz) hl1).symm
     ·exact (A8 z3 hl2).symm
     ·exact (A8 z4 hc).symm
     ·exact (A8 (kk6 z4 zx) hd).symm
     ·exact M8 (hI q (p2.mem_iff.mp hq)) hz (by intro y; cases y)
     ·exact ((odif hz zx).1 n hn).symm
     ·exact ((odif hz zx).2 n hn).symm
    rw [B2 nz]; exact e
end
end Sw
namespace Sw
open PySem L2
theorem WebAt.same {C:Addr} {H H':Hp} {x:Addr} {ns:List Str} {qs:List PA2} (h:WebAt C H x ns qs) (s:Same H H'):WebAt C H' x ns qs:=by
 obtain ⟨ok,dx,a,b,c,d,kc,kd,e1,e2,e3,e4,e5,e6,e7,e8⟩:=h
 exact ⟨ok,dx,a,b,c,d,kc,kd,s _ _ e1,s _ _ e2,s _ _ e3,J3 s e4,s _ _ e5,s _ _ e6,fun n hn=>let ⟨l,v,e⟩:=e7 n hn; ⟨l,v,s _ _ e⟩,fun n hn=>let ⟨l,v,e⟩:=e8 n hn; ⟨l,v,s _ _ e⟩⟩
section
variable {P:Program} {w:World} {K:PySem.W.Frag} {mg:Str->Option Value} {base:Heap}
theorem m8:FnScope ["self"] ["self"] (B5 s_Web_all_names):=⟨rfl,rfl,rfl,by decide +kernel,rfl,by decide +kernel,by decide +kernel⟩
noncomputable def e9 (C:Addr):Sp:=fun vs H Q _=>∃ (x:Addr) (ns:List Str) (qs:List PA2),vs = [.ref x]/\WebAt C H x ns qs/\∀ l,H l = none->Q (.ref l) (upd H l (.lst (ns.map V.str)))
theorem m9 (T:Tx K mg):FnOk P w K mg base CX0 1 T.mWeb_all_names.f T.mWeb_all_names.fd ["self"] (e9 T.CWeb):=by
 refine T.mWeb_all_names.F.ok m8 (fun vs H Q E h=>?_) (fun cdv A outer s H vs Q E hr h=>?_)
 ·obtain ⟨x,ns,qs,rfl,_⟩:=h
  rfl
 ·obtain ⟨x,ns,qs,rfl,⟨ok,dx,a,b,c,d,kc,kd,e1,e2,e3,e4,e5,e6,e7,e8⟩,k⟩:=h
  refine ⟨_,(B1 (C0 (Dw (Au K) T.b_list T1 (A6 (peF K (pv 0)) A9)))),?_⟩
  exact ⟨_,rfl,x,T.CWeb,dx,_,_,rfl,e1,T.clWeb,T.nWeb_names,rfl,a,_,rfl,.inl (SqL.of e2),k⟩
theorem X4:FnScope ["self"] ["self"] (B5 s_Web_all_strikes):=⟨rfl,rfl,rfl,by decide +kernel,rfl,by decide +kernel,by decide +kernel⟩
noncomputable def Q1 (C:Addr):Sp:=fun vs H Q _=>∃ (x:Addr) (ns:List Str) (qs:List PA2),vs = [.ref x]/\WebAt C H x ns qs/\∀ l,H l = none->Q (.ref l) (upd H l (.lst (J9 qs)))
theorem P9 (T:Tx K mg):FnOk P w K mg base CX0 1 T.mWeb_all_strikes.f T.mWeb_all_strikes.fd ["self"] (Q1 T.CWeb):=by
 refine T.mWeb_all_strikes.F.ok X4 (fun vs H Q E h=>?_) (fun cdv A outer s H vs Q E hr h=>?_)
 ·obtain ⟨x,ns,qs,rfl,_⟩:=h
  rfl
 ·obtain ⟨x,ns,qs,rfl,⟨ok,dx,a,b,c,d,kc,kd,e1,e2,e3,e4,e5,e6,e7,e8⟩,k⟩:=h
  refine ⟨_,(B1 (C0 (Dw (Au K) T.b_list T1 (A6 (peF K (pv 0)) A9)))),?_⟩
  exact ⟨_,rfl,x,T.CWeb,dx,_,_,rfl,e1,T.clWeb,T.nWeb_strikes,rfl,b,_,rfl,.inl (SqL.of e3),k⟩
theorem N9:FnScope ["self", "name"] ["self", "name"] (B5 s_Web_check_has):=⟨rfl,rfl,rfl,by decide +kernel,rfl,by decide +kernel,by decide +kernel⟩
noncomputable def Q0 (C:Addr):Sp:=fun vs H Q _=>∃ (x:Addr) (n:Str) (ns:List Str) (qs:List PA2),vs = [.ref x,.str n]/\WebAt C H x ns qs/\n ∈ ns/\Q .non H
theorem O1 (T:Tx K mg):FnOk P w K mg base CX0 1 T.mWeb_check_has.f T.mWeb_check_has.fd ["self", "name"] (Q0 T.CWeb):=by
 refine T.mWeb_check_has.F.ok N9 (fun vs H Q E h=>?_) (fun cdv A outer s H vs Q E hr h=>?_)
 ·obtain ⟨x,n,ns,qs,rfl,_⟩:=h
  rfl
 ·obtain ⟨x,n,ns,qs,rfl,⟨ok,dx,a,b,c,d,kc,kd,e1,e2,e3,e4,e5,e6,e7,e8⟩,hn,k⟩:=h
  refine ⟨_,(B1 (I0 (B9 (P4 K) (pv 1) (peF K (pv 0)) rfl) (B1 X3) C1)),?_⟩
  refine ex1 rfl (ex1 rfl ⟨x,T.CWeb,dx,_,ex1 rfl ⟨e1,T.clWeb,T.nWeb_names,rfl,J2 (.inl (SqL.of e2)) ⟨_,rfl,?_⟩⟩⟩)
  rw [decide_eq_true hn]
  exact O4 k
end
end Sw
namespace Sw
open PySem L2
section
variable {P:Program} {w:World} {K:PySem.W.Frag} {mg:Str->Option Value} {base:Heap}
theorem Eb:FnScope ["self", "name"] ["self", "name"] (B5 s_Web_struck):=⟨rfl,rfl,rfl,by decide +kernel,rfl,by decide +kernel,by decide +kernel⟩
noncomputable def Ey (C:Addr):Sp:=fun vs H Q _=>∃ (x:Addr) (n:Str) (ns:List Str) (qs:List PA2),vs = [.ref x,.str n]/\WebAt C H x ns qs/\n ∈ ns/\∀ l,H l = none->Q (.ref l) (upd H l (.lst ((D6 qs n).map V.str)))
theorem Do (T:Tx K mg):FnOk P w K mg base CX0 2 T.mWeb_struck.f T.mWeb_struck.fd ["self", "name"] (Ey T.CWeb):=by
 have G_Web_check_has:FnOk P w K mg base CX0 1 T.mWeb_check_has.f T.mWeb_check_has.fd ["self", "name"] (Q0 T.CWeb):=O1 T
 refine T.mWeb_struck.F.ok Eb (fun vs H Q E h=>?_) (fun cdv A outer s H vs Q E hr h=>?_)
 ·obtain ⟨x,n,ns,qs,rfl,_⟩:=h
  rfl
 ·obtain ⟨x,n,ns,qs,rfl,hW,hn,k⟩:=h
  have hu:=Hg hr
  obtain ⟨ok,dx,a,b,c,d,kc,kd,e1,e2,e3,e4,e5,e6,e7,e8⟩:=id hW
  refine ⟨_,(B0 (C7 (P0 (pv 0) T.clWeb T.mWeb_check_has.m G_Web_check_has (hr.mono (by decide)) T.mWeb_check_has.b .nil F0 (A6 (pv 1) A9)))
   (B1 (C0 (Dw (Au K) T.b_list T1 (A6 (Cu hu (peF K (pv 0)) (pv 1) (fun _ _=>rfl)) A9))))),?_⟩
  refine ex1 rfl ⟨x,dx,ex1 rfl ⟨e1,rfl,ex1 rfl ⟨x,n,ns,qs,rfl,hW,hn,?_⟩⟩⟩
  obtain ⟨l,v,e⟩:=e8 n hn
  exact ⟨_,rfl,x,T.CWeb,dx,_,_,rfl,e1,T.clWeb,T.nWeb_struck_by_name,rfl,_,rfl,d,_,rfl,by rw [<-v]; exact DGet.k (k:=Sum.inr n) e6,l,_,rfl,.inl (SqL.of e),k⟩
end
end Sw
namespace Sw
open PySem L2
section
variable {P:Program} {w:World} {K:PySem.W.Frag} {mg:Str->Option Value} {base:Heap}
theorem Ar:FnScope ["self", "name"] ["self", "name"] (B5 s_Web_strikers):=⟨rfl,rfl,rfl,by decide +kernel,rfl,by decide +kernel,by decide +kernel⟩
noncomputable def O8 (C:Addr):Sp:=fun vs H Q _=>∃ (x:Addr) (n:Str) (ns:List Str) (qs:List PA2),vs = [.ref x,.str n]/\WebAt C H x ns qs/\n ∈ ns/\∀ l,H l = none->Q (.ref l) (upd H l (.lst ((B3 qs n).map V.str)))
theorem J8 (T:Tx K mg):FnOk P w K mg base CX0 2 T.mWeb_strikers.f T.mWeb_strikers.fd ["self", "name"] (O8 T.CWeb):=by
 have G_Web_check_has:FnOk P w K mg base CX0 1 T.mWeb_check_has.f T.mWeb_check_has.fd ["self", "name"] (Q0 T.CWeb):=O1 T
 refine T.mWeb_strikers.F.ok Ar (fun vs H Q E h=>?_) (fun cdv A outer s H vs Q E hr h=>?_)
 ·obtain ⟨x,n,ns,qs,rfl,_⟩:=h
  rfl
 ·obtain ⟨x,n,ns,qs,rfl,hW,hn,k⟩:=h
  have hu:=Hg hr
  obtain ⟨ok,dx,a,b,c,d,kc,kd,e1,e2,e3,e4,e5,e6,e7,e8⟩:=id hW
  refine ⟨_,(B0 (C7 (P0 (pv 0) T.clWeb T.mWeb_check_has.m G_Web_check_has (hr.mono (by decide)) T.mWeb_check_has.b .nil F0 (A6 (pv 1) A9)))
   (B1 (C0 (Dw (Au K) T.b_list T1 (A6 (Cu hu (peF K (pv 0)) (pv 1) (fun _ _=>rfl)) A9))))),?_⟩
  refine ex1 rfl ⟨x,dx,ex1 rfl ⟨e1,rfl,ex1 rfl ⟨x,n,ns,qs,rfl,hW,hn,?_⟩⟩⟩
  obtain ⟨l,v,e⟩:=e7 n hn
  exact ⟨_,rfl,x,T.CWeb,dx,_,_,rfl,e1,T.clWeb,T.nWeb_strikers_by_name,rfl,_,rfl,c,_,rfl,by rw [<-v]; exact DGet.k (k:=Sum.inr n) e5,l,_,rfl,.inl (SqL.of e),k⟩
end
end Sw
namespace Sw
open PySem L2
theorem Sc {l:List Str} {k y:Str}:y ∈ Ek l k ↔ y ∈ l\/y = k:=by
 unfold Ek
 by_cases h:k ∈ l
 ·rw [if_pos h]
  exact ⟨.inl,fun z=>z.elim id fun e=>e ▸ h⟩
 ·rw [if_neg h,List.mem_append,List.mem_singleton]
theorem Ul {l:List Str} {k:Str} (nd:l.Nodup):(Ek l k).Nodup:=by
 unfold Ek
 by_cases h:k ∈ l
 ·rw [if_pos h]; exact nd
 ·rw [if_neg h]; exact Op nd h
theorem Rb (l:List Str) (k:Str):(Ek l k).length<=l.length + 1:=by
 unfold Ek
 split
 ·omega
 ·rw [List.length_append]; simp
theorem Py {w:World} {J:It} {a D:Addr} {ys:List Str} {H0 H:Hp} {n:Nat} {σ:St} {Q:St->Hp->Prop} {Sg:St->Prop} {i0:Nat} (as:AsSeq J (ys.map V.str) a H) (hσ:Sg σ) (hS:∀ σ v,Sg σ->Sg (σ.set i0 (some v))/\(σ.set i0 (some v))[i0]? = some (some v)) {l:List Str} (hD:H D = some (Bn w D l)) (haD:a ≠ D) (nd:l.Nodup) (hl:l.length + ys.length<=4000)
  (hs:Same H0 H) (hD0:H0 D = none) (q:∀ σ l' H',Sg σ->Same H0 H'->H' D = some (Bn w D l')->l'.Nodup->l'.length<=l.length + ys.length->(∀ y,y ∈ l' ↔ y ∈ l\/y ∈ ys)->Q σ H') :
  Ha (T9 i0) Sd (Fh w D (Mj i0)) J σ H Q:=by
 refine Q3 as (fun i σ H1=>Sg σ/\Same H0 H1/\(∀ o,H a = some o->H1 a = some o)/\∃ l',H1 D = some (Bn w D l')/\l'.Nodup/\l'.length<=l.length + i/\∀ y,y ∈ l' ↔ y ∈ l\/y ∈ ys.take i)
  ⟨hσ,hs,fun _ e=>e,l,hD,nd,Nat.le_refl _,fun y=>by simp⟩ (fun i σ H1 _ ⟨_,_,k,_⟩=>k) ?_ ?_
 ·rintro i σ H1 x N hx ⟨hσ1,s1,ka,l',e1,n1,l1,m1⟩ hN
  rw [List.getElem?_map] at hx
  cases hy:ys[i]? with
  | none=>rw [hy] at hx; cases hx
  | some y =>
   rw [hy] at hx
   cases hx
   have hi:=(List.getElem?_eq_some_iff.mp hy).1
   refine b8 ?_
   refine ⟨_,(hS σ _ hσ1).2,l',y,rfl,e1,by omega,hN _ _ ⟨(hS σ _ hσ1).1,s1.upd hD0,fun o e=>?_,Ek l' y,A7,Ul n1,?_,fun z=>?_⟩⟩
   ·rw [B2 haD]; exact ka o e
   ·have:=Rb l' y
    omega
   ·rw [Sc,m1,E2 hy,List.mem_append,List.mem_singleton,or_assoc]
 ·rintro σ H1 ⟨hσ1,s1,ka,l',e1,n1,l1,m1⟩
  rw [List.length_map] at l1 m1
  rw [List.take_length] at m1
  exact q σ l' H1 hσ1 s1 e1 n1 l1 m1
theorem mem_struckOf {qs:List PA2} {n y:Str}:y ∈ D6 qs n ↔ ∃ q ∈ qs,q.2.1 = n/\q.2.2 = y:=by
 unfold D6
 rw [List.mem_map]
 constructor
 ·rintro ⟨q,hq,e⟩
  obtain ⟨h1,h2⟩:=List.mem_filter.mp hq
  exact ⟨q,h1,of_decide_eq_true h2,e⟩
 ·rintro ⟨q,h1,h2,h3⟩
  exact ⟨q,List.mem_filter.mpr ⟨h1,decide_eq_true h2⟩,h3⟩
theorem mem_strikersOf {qs:List PA2} {n y:Str}:y ∈ B3 qs n ↔ ∃ q ∈ qs,q.2.2 = n/\q.2.1 = y:=by
 unfold B3
 rw [List.mem_map]
 constructor
 ·rintro ⟨q,hq,e⟩
  obtain ⟨h1,h2⟩:=List.mem_filter.mp hq
  exact ⟨q,h1,of_decide_eq_true h2,e⟩
 ·rintro ⟨q,h1,h2,h3⟩
  exact ⟨q,List.mem_filter.mpr ⟨h1,decide_eq_true h2⟩,h3⟩
theorem Er (qs:List PA2) (n:Str):(D6 qs n).length<=qs.length:=by
 unfold D6
 rw [List.length_map]
 exact List.length_filter_le ..
theorem Bb (qs:List PA2) (n:Str):(B3 qs n).length<=qs.length:=by
 unfold B3
 rw [List.length_map]
 exact List.length_filter_le ..
end Sw
namespace Sw
open PySem L2
section
variable {P:Program} {w:World} {K:PySem.W.Frag} {mg:Str->Option Value} {base:Heap}
theorem n6:FnScope ["web", "some"] ["web", "some"] (B5 s_struck_by_any):=⟨rfl,rfl,rfl,by decide +kernel,rfl,by decide +kernel,by decide +kernel⟩
noncomputable def Gf (K:PySem.W.Frag) (C:Addr) (f:List PA2->Str->List Str):Sp:=fun vs H Q _=>∃ (x a:Addr) (ss ns:List Str) (qs:List PA2),vs = [.ref x,.ref a]/\WebAt C H x ns qs/\Sqs K H a (ss.map V.str)/\(∀ n ∈ ss,n ∈ ns) /\
 ∀ l (hs:List Str) H',H l = none->Same H H'->H' l = some (.lst (hs.map V.str))->(∀ y,y ∈ hs ↔ ∃ n ∈ ss,y ∈ f qs n)->hs.Pairwise leS->hs.Nodup->hs.length<=100->Q (.ref l) H'
theorem R4 (T:Tx K mg):FnOk P w K mg base CX0 3 T.struck_by_any.f T.struck_by_any.fd ["web", "some"] (Gf K T.CWeb D6):=by
 have G_Web_struck:FnOk P w K mg base CX0 2 T.mWeb_struck.f T.mWeb_struck.fd ["self", "name"] (Ey T.CWeb):=Do T
 refine T.struck_by_any.F.ok n6 (fun vs H Q E h=>?_) (fun cdv A outer s H vs Q E hr h=>?_)
 ·obtain ⟨x,a,ss,ns,qs,rfl,_⟩:=h
  rfl
 ·obtain ⟨x,a,ss,ns,qs,rfl,hW,hS,hM,k⟩:=h
  have hu:=Hg hr
  obtain ⟨ok,dx,a1,b,c,d,kc,kd,e1,_⟩:=id hW
  have hsub:∀ l:List Str,l.Nodup->(∀ y ∈ l,∃ n ∈ ss,y ∈ D6 qs n)->l.length<=100:=fun l nd h=>by
   refine Nat.le_trans (nd.length_le_of_subset fun y hy=>?_) ok.len
   obtain ⟨n,_,hy'⟩:=h y hy
   obtain ⟨q,hq,_,e⟩:=mem_struckOf.mp hy'
   rw [<-e]
   exact (ok.mem q hq).2
  refine ⟨_,(B1 (C0 (D0 (Dg w) T.b_sorted Q5 (A6 (Zn w (N':=["name", "other", "web"]) (cap:=[none,none,some 0]) (cl:=[("web",_)]) (V2 ⟨⟨rfl,rfl,rfl,rfl⟩,trivial⟩ ⟨rfl,trivial⟩) (piS K (pv 1)) (fun _ _ _ _=>by exact ⟨(pgC 0),O9,(piL K (P0 (pv 2) T.clWeb T.mWeb_struck.m G_Web_struck (hr.mono (by decide)) T.mWeb_struck.b .nil F0 (A6 (pv 0) A9))),(pgC 1),O9,(pv 1)⟩)) A9)))),?_⟩
  dsimp only [Uu,Wp,T9,zAb,tCB,Ml,Tv]
  refine Cp (by rfl) hS ?_
  intro J as D hD
  refine Q3 as (fun i σ H1=>(∃ v0 v1,σ = [v0,v1,some (.ref x)])/\Same H H1/\∃ l,H1 D = some (Bn w D l)/\l.Nodup/\∀ y,y ∈ l ↔ ∃ n ∈ ss.take i,y ∈ D6 qs n)
   ⟨⟨_,_,rfl⟩,Same.new hD,[],A7,List.nodup_nil,fun y=>by simp⟩ (fun i σ H1 _ ⟨_,s1,_⟩=>s1.at a) ?_ ?_
  ·rintro i σ H1 v N hx ⟨⟨v0,v1,rfl⟩,s1,l,e2,n2,m2⟩ hN
   rw [List.getElem?_map] at hx
   cases hy:ss[i]? with
   | none=>rw [hy] at hx; cases hx
   | some n =>
    rw [hy] at hx
    cases hx
    have hn:n ∈ ns:=hM n (List.mem_of_getElem? hy)
    have hl100:l.length<=100:=hsub l n2 fun y hy=>by
     obtain ⟨m,hm,h⟩:=(m2 y).mp hy
     exact ⟨m,List.mem_of_mem_take hm,h⟩
    refine b8 ?_
    refine ex1 rfl ⟨x,dx,ex1 rfl ⟨s1 _ _ e1,rfl,ex1 rfl ⟨x,n,ns,qs,rfl,hW.same s1,hn,fun p hp=>?_⟩⟩⟩
    have npD:D ≠ p:=A8 e2 hp
    refine ⟨p,rfl,⟨_,SqL.of A7⟩,Py (H0:=H) (n:=0) (asL (SqL.of A7)) (Sg:=fun σ=>∃ v0 v1,σ = [v0,v1,some (.ref x)]) ⟨_,_,rfl⟩ (fun σ v ⟨v0,v1,e⟩=>by rw [e]; exact ⟨⟨_,_,rfl⟩,rfl⟩) (by rw [B2 npD]; exact e2) npD.symm n2 ?_ (s1.trans (Same.new hp)) hD ?_⟩
    ·have:=Er qs n
     have:=ok.lenq
     omega
    ·rintro σ l' H2 hσ s2 e3 n3 _ m3
     refine hN _ _ ⟨hσ,s2,l',e3,n3,fun y=>?_⟩
     rw [m3,m2,E2 hy]
     constructor
     ·rintro (⟨m,hm,h⟩ | h)
      ·exact ⟨m,List.mem_append_left _ hm,h⟩
      ·exact ⟨n,List.mem_append_right _ (List.mem_singleton.mpr rfl),h⟩
     ·rintro ⟨m,hm,h⟩
      rcases List.mem_append.mp hm with z | z
      ·exact .inl ⟨m,z,h⟩
      ·rw [List.mem_singleton.mp z] at h; exact .inr h
  ·rintro σ H1 ⟨_,s1,l,e2,n2,m2⟩
   rw [List.length_map,List.take_length] at m2
   refine ⟨D,l,rfl,e2,fun p hs hp pm srt=>?_⟩
   have s2:Same H (upd H1 p (.lst (hs.map V.str))):=s1.trans (Same.new hp)
   exact k p hs _ (s1.free hp) s2 A7 (fun y=>by rw [pm.mem_iff]; exact m2 y) srt (pm.nodup_iff.mpr n2) (by rw [pm.length_eq]; exact hsub l n2 fun y hy=>(m2 y).mp hy)
end
end Sw
namespace Sw
open PySem L2
noncomputable def Ax (qs:List PA2) (a b:Str):Prop:=∃ q ∈ qs,q.2.1 = a/\q.2.2 = b
theorem strk_struck {qs:List PA2} {a b:Str}:b ∈ D6 qs a ↔ Ax qs a b:=mem_struckOf
instance (qs:List PA2) (a b:Str):Decidable (Ax qs a b):=inferInstanceAs (Decidable (∃ q ∈ qs,q.2.1 = a/\q.2.2 = b))
noncomputable def J1 (qs:List PA2) (ss:List Str):Bool:=ss.all fun n=>decide (¬ ∃ m ∈ ss,Ax qs m n)
noncomputable def Hq (K:PySem.W.Frag) (C:Addr) (f:List Str->List PA2->List Str->Bool):Sp:=fun vs H Q _=>∃ (x a:Addr) (ss ns:List Str) (qs:List PA2),vs = [.ref x,.ref a]/\WebAt C H x ns qs/\Sqs K H a (ss.map V.str)/\(∀ n ∈ ss,n ∈ ns)/\ss.length<=100 /\
 ∀ H',Same H H'->Q (.bl (f ns qs ss)) H'
theorem strk_strikers {qs:List PA2} {a b:Str}:a ∈ B3 qs b ↔ Ax qs a b:=by
 unfold B3 Ax
 rw [List.mem_map]
 constructor
 ·rintro ⟨q,hq,rfl⟩
  obtain ⟨h1,h2⟩:=List.mem_filter.mp hq
  exact ⟨q,h1,rfl,of_decide_eq_true h2⟩
 ·rintro ⟨q,hq,rfl,rfl⟩
  exact ⟨q,List.mem_filter.mpr ⟨hq,decide_eq_true rfl⟩,rfl⟩
end Sw
namespace Sw
open PySem L2
section
variable {P:Program} {w:World} {K:PySem.W.Frag} {mg:Str->Option Value} {base:Heap}
theorem q0:FnScope ["web", "some", "hit"] ["web", "some"] (B5 s_is_quiet):=⟨rfl,rfl,rfl,by decide +kernel,rfl,by decide +kernel,by decide +kernel⟩
theorem Aq (T:Tx K mg):FnOk P w K mg base CX0 4 T.is_quiet.f T.is_quiet.fd ["web", "some"] (Hq K T.CWeb fun _=>J1):=by
 have G_struck_by_any:FnOk P w K mg base CX0 3 T.struck_by_any.f T.struck_by_any.fd ["web", "some"] (Gf K T.CWeb D6):=R4 T
 have sc:=q0
 refine T.is_quiet.F.ok q0 (fun vs H Q E h=>?_) (fun cdv A outer s H vs Q E hr h=>?_)
 ·obtain ⟨x,a,ss,ns,qs,rfl,_⟩:=h
  rfl
 ·obtain ⟨x,a,ss,ns,qs,rfl,hW,hS,hM,hl,k⟩:=h
  refine ⟨_,(B0 (C5 (i:=2) sc.nd rfl (by first | exact Or.inl rfl | exact Or.inr rfl) (E4 T.struck_by_any G_struck_by_any (hr.mono (by decide)) (A6 (pv 0) (A6 (pv 1) A9))))
   (B1 (C0 (D0 (Kj K) T.b_all Je (A6 (Aw (N':=["name", "hit"]) (cap:=[none,some 2]) (cl:=[("hit",_)]) (V2 ⟨⟨rfl,rfl,rfl,rfl⟩,trivial⟩ ⟨rfl,trivial⟩) rfl (piS K (pv 1)) (fun _ _ _ _=>by exact ⟨(pgC 0),O9,(I9 (P4 K) (pv 0) (pv 1) rfl)⟩)) A9))))),?_⟩
  refine ex1 rfl (ex1 rfl (zAv (a:=x) (b:=a) (c:=ss) (d:=ns) (e:=qs) rfl hW hS hM fun l hs H1 hl0 s1 e1 m1 _ _ _=>?_))
  dsimp only [Uu,Wp,T9,zAb,tCB,Ml,Tv]
  refine Cp (by rfl) ((s1.at a).seq hS) ?_
  intro J as D hD
  refine Q3 as (fun i σ H2=>(∃ v0,σ = [v0,some (.ref l)])/\Same H1 H2/\H2 D = some (.lst ((ss.take i).map fun n=>V.bl (!decide (n ∈ hs)))))
   ⟨⟨_,rfl⟩,Same.new hD,A7⟩ (fun i σ H1 _ ⟨_,s1,_⟩=>s1.at a) ?_ ?_
  ·rintro i σ H2 v N hx ⟨⟨v0,rfl⟩,s2,e2⟩ hN
   rw [List.getElem?_map] at hx
   cases hy:ss[i]? with
   | none=>rw [hy] at hx; cases hx
   | some n =>
    rw [hy] at hx
    cases hx
    refine b8 ?_
    refine ex1 rfl (ex1 rfl (J2 (.inl (SqL.of (s2 _ _ e1))) ⟨_,e2,?_,hN _ _ ⟨⟨_,rfl⟩,s2.upd hD,?_⟩⟩))
    ·rw [List.length_map,List.length_take,sizeLine_eq]; omega
    ·rw [A7,E2 hy,List.map_append]; rfl
  ·rintro σ H2 ⟨_,s2,e2⟩
   rw [List.length_map,List.take_length] at e2
   refine ⟨D,ss.map fun n=>!decide (n ∈ hs),rfl,SqL.of (by rw [e2,List.map_map]; rfl),?_⟩
   have e:(ss.map fun n=>!decide (n ∈ hs)).all id = J1 qs ss:=by
    unfold J1
    rw [List.all_map]
    congr 1
    funext n
    show (!decide (n ∈ hs)) = decide (¬ ∃ m ∈ ss,Ax qs m n)
    have:n ∈ hs ↔ ∃ m ∈ ss,Ax qs m n:=by
     rw [m1]
     exact ⟨fun ⟨m,h1,h2⟩=>⟨m,h1,strk_struck.mp h2⟩,fun ⟨m,h1,h2⟩=>⟨m,h1,strk_struck.mpr h2⟩⟩
    rw [decide_not]
    congr 1
    exact decide_eq_decide.mpr this
   rw [e]
   exact k _ (s1.trans s2)
end
end Sw
namespace Sw
open PySem L2
section
variable {P:Program} {w:World} {K:PySem.W.Frag} {mg:Str->Option Value} {base:Heap}
theorem V7:FnScope ["web", "some"] ["web", "some"] (B5 s_strikers_of_any):=⟨rfl,rfl,rfl,by decide +kernel,rfl,by decide +kernel,by decide +kernel⟩
theorem V9 (T:Tx K mg):FnOk P w K mg base CX0 3 T.strikers_of_any.f T.strikers_of_any.fd ["web", "some"] (Gf K T.CWeb B3):=by
 have G_Web_strikers:FnOk P w K mg base CX0 2 T.mWeb_strikers.f T.mWeb_strikers.fd ["self", "name"] (O8 T.CWeb):=J8 T
 refine T.strikers_of_any.F.ok V7 (fun vs H Q E h=>?_) (fun cdv A outer s H vs Q E hr h=>?_)
 ·obtain ⟨x,a,ss,ns,qs,rfl,_⟩:=h
  rfl
 ·obtain ⟨x,a,ss,ns,qs,rfl,hW,hS,hM,k⟩:=h
  have hu:=Hg hr
  obtain ⟨ok,dx,a1,b,c,d,kc,kd,e1,_⟩:=id hW
  have hsub:∀ l:List Str,l.Nodup->(∀ y ∈ l,∃ n ∈ ss,y ∈ B3 qs n)->l.length<=100:=fun l nd h=>by
   refine Nat.le_trans (nd.length_le_of_subset fun y hy=>?_) ok.len
   obtain ⟨n,_,hy'⟩:=h y hy
   obtain ⟨q,hq,_,e⟩:=mem_strikersOf.mp hy'
   rw [<-e]
   exact (ok.mem q hq).1
  refine ⟨_,(B1 (C0 (D0 (Dg w) T.b_sorted Q5 (A6 (Zn w (N':=["name", "striker", "web"]) (cap:=[none,none,some 0]) (cl:=[("web",_)]) (V2 ⟨⟨rfl,rfl,rfl,rfl⟩,trivial⟩ ⟨rfl,trivial⟩) (piS K (pv 1)) (fun _ _ _ _=>by exact ⟨(pgC 0),O9,(piL K (P0 (pv 2) T.clWeb T.mWeb_strikers.m G_Web_strikers (hr.mono (by decide)) T.mWeb_strikers.b .nil F0 (A6 (pv 0) A9))),(pgC 1),O9,(pv 1)⟩)) A9)))),?_⟩
  dsimp only [Uu,Wp,T9,zAb,tCB,Ml,Tv]
  refine Cp (by rfl) hS ?_
  intro J as D hD
  refine Q3 as (fun i σ H1=>(∃ v0 v1,σ = [v0,v1,some (.ref x)])/\Same H H1/\∃ l,H1 D = some (Bn w D l)/\l.Nodup/\∀ y,y ∈ l ↔ ∃ n ∈ ss.take i,y ∈ B3 qs n)
   ⟨⟨_,_,rfl⟩,Same.new hD,[],A7,List.nodup_nil,fun y=>by simp⟩ (fun i σ H1 _ ⟨_,s1,_⟩=>s1.at a) ?_ ?_
  ·rintro i σ H1 v N hx ⟨⟨v0,v1,rfl⟩,s1,l,e2,n2,m2⟩ hN
   rw [List.getElem?_map] at hx
   cases hy:ss[i]? with
   | none=>rw [hy] at hx; cases hx
   | some n =>
    rw [hy] at hx
    cases hx
    have hn:n ∈ ns:=hM n (List.mem_of_getElem? hy)
    have hl100:l.length<=100:=hsub l n2 fun y hy=>by
     obtain ⟨m,hm,h⟩:=(m2 y).mp hy
     exact ⟨m,List.mem_of_mem_take hm,h⟩
    refine b8 ?_
    refine ex1 rfl ⟨x,dx,ex1 rfl ⟨s1 _ _ e1,rfl,ex1 rfl ⟨x,n,ns,qs,rfl,hW.same s1,hn,fun p hp=>?_⟩⟩⟩
    have npD:D ≠ p:=A8 e2 hp
    refine ⟨p,rfl,⟨_,SqL.of A7⟩,Py (H0:=H) (n:=0) (asL (SqL.of A7)) (Sg:=fun σ=>∃ v0 v1,σ = [v0,v1,some (.ref x)]) ⟨_,_,rfl⟩ (fun σ v ⟨v0,v1,e⟩=>by rw [e]; exact ⟨⟨_,_,rfl⟩,rfl⟩) (by rw [B2 npD]; exact e2) npD.symm n2 ?_ (s1.trans (Same.new hp)) hD ?_⟩
    ·have:=Bb qs n
     have:=ok.lenq
     omega
    ·rintro σ l' H2 hσ s2 e3 n3 _ m3
     refine hN _ _ ⟨hσ,s2,l',e3,n3,fun y=>?_⟩
     rw [m3,m2,E2 hy]
     constructor
     ·rintro (⟨m,hm,h⟩ | h)
      ·exact ⟨m,List.mem_append_left _ hm,h⟩
      ·exact ⟨n,List.mem_append_right _ (List.mem_singleton.mpr rfl),h⟩
     ·rintro ⟨m,hm,h⟩
      rcases List.mem_append.mp hm with z | z
      ·exact .inl ⟨m,z,h⟩
      ·rw [List.mem_singleton.mp z] at h; exact .inr h
  ·rintro σ H1 ⟨_,s1,l,e2,n2,m2⟩
   rw [List.length_map,List.take_length] at m2
   refine ⟨D,l,rfl,e2,fun p hs hp pm srt=>?_⟩
   have s2:Same H (upd H1 p (.lst (hs.map V.str))):=s1.trans (Same.new hp)
   exact k p hs _ (s1.free hp) s2 A7 (fun y=>by rw [pm.mem_iff]; exact m2 y) srt (pm.nodup_iff.mpr n2) (by rw [pm.length_eq]; exact hsub l n2 fun y hy=>(m2 y).mp hy)
end
end Sw
namespace Sw
open PySem L2
theorem zDa (x y:Nat):Builtin.bitAnd (x:Int) (y:Int) = ((x &&& y:Nat):Int):=by simp [Builtin.bitAnd]
theorem Yn {x y:Str} (h:x.cps.toList = y.cps.toList):x = y:=by
 cases x; cases y
 exact congrArg Str.mk (Array.toList_inj.mp h)
theorem Qz {x y:Str} (h1:leS x y) (h2:leS y x):x = y:=Yn (List.le_antisymm (as:=x.cps.toList) (bs:=y.cps.toList) h1 h2)
theorem Z8 {a b:List Str} (h1:a.Pairwise leS) (h2:b.Pairwise leS) (h:a.Perm b):a = b:=List.Perm.eq_of_pairwise (fun _ _ _ _=>Qz) h1 h2 h
end Sw
namespace Sw
open PySem L2
theorem Ai {K:PySem.W.Frag} {a D:Addr} {ts:List Str} {r:St} {tc:TT} {H:Hp} {Q:St->Hp->Prop} (p:Str->Bool) (e:H a = some (.lst (ts.map V.str))) (len:ts.length<=1000) (hD:H D = none)
  (ht:∀ y ∈ ts,∀ H1,Same H H1->∀ Q':Bool->Hp->Prop,(∀ H2,Same H1 H2->Q' (p y) H2)->tc (some (.str y) :: r) H1 Q') (h:∀ σ H2,Same H H2->H2 D = some (.lst ((ts.filter p).map V.str))->Q σ H2) (v0:Option V) :
  Ha (T9 0) tc (Lw D (Mj 0)) (Itl K a) (v0 :: r) (upd H D (.lst [])) Q:=by
 refine Q3 (asL (K:=K) (SqL.of e)) (fun i σ H3=>(∃ v,σ = v :: r)/\Same H H3/\H3 D = some (.lst (((ts.take i).filter p).map V.str)))
  ⟨⟨_,rfl⟩,Same.new hD,A7⟩ (fun i σ H1 _ ⟨_,s1,_⟩=>s1.at a) ?_ ?_
 ·rintro i σ H3 v N hx ⟨⟨v0,rfl⟩,s3,e3⟩ hN
  rw [List.getElem?_map] at hx
  obtain ⟨y,hy,rfl⟩:=Option.map_eq_some_iff.mp hx
  refine ht y (List.mem_of_getElem? hy) H3 s3 _ fun H4 s4=>?_
  have e3:=s4 _ _ e3
  have s3:=s3.trans s4
  have hs:(ts.take (i + 1)).filter p = (ts.take i).filter p ++ if p y = true then [y] else []:=by
   rw [E2 hy,List.filter_append,List.filter_cons,List.filter_nil]
  have hl:(((ts.take i).filter p).map V.str).length<=1000:=by
   rw [List.length_map]
   have:=List.length_filter_le p (ts.take i)
   rw [List.length_take] at this
   omega
  refine Fz (fun c=>ex1 rfl ⟨_,e3,by rw [sizeLine_eq]; omega,hN _ _ ⟨⟨_,rfl⟩,s3.upd hD,?_⟩⟩) (fun c=>hN _ _ ⟨⟨_,rfl⟩,s3,?_⟩)
  ·rw [A7,hs,if_pos c,List.map_append]; rfl
  ·rw [hs,if_neg c,List.append_nil]; exact e3
 ·rintro σ H3 ⟨_,s3,e3⟩
  rw [List.length_map,List.take_length] at e3
  exact h σ H3 s3 e3
end Sw
namespace Sw
open PySem L2
noncomputable def er (H:Hp) (m:Addr):Hp:=fun b=>if b = m then none else H b
theorem S3 {H:Hp} {m b:Addr} (h:b ≠ m):er H m b = H b:=if_neg h
theorem Vr {H:Hp} {m:Addr}:Same (er H m) H:=fun b o e=>by
 by_cases h:b = m
 ·unfold er at e; rw [if_pos h] at e; cases e
 ·rw [S3 h] at e; exact e
theorem Vb {H H':Hp} {m:Addr} (s:Same H H'):Same (er H m) (er H' m):=fun b o e=>by
 by_cases h:b = m
 ·unfold er at e; rw [if_pos h] at e; cases e
 ·rw [S3 h] at e; rw [S3 h]; exact s _ _ e
theorem Up {H:Hp} {m:Addr} (h:H m = none):Same H (er H m):=fun b o e=>by
 rw [S3 (A8 e h)]; exact e
noncomputable def df (x l:Addr) (kd:Str):List (Str × V):=[("web",.ref x),("kind",.str kd),("line",.ref l)]
structure DAt (CD CW:Addr) (H:Hp) (d x l:Addr) (ns:List Str) (qs:List PA2) (kd:Str) (li:List Str):Prop where
 ins:∃ dd,H d = some (.ins CD dd (df x l kd))
 at_:H l = some (.lst (li.map V.str))
 W:WebAt CW (er H l) x ns qs
 mem:∀ n ∈ li,n ∈ ns
 ne:li ≠ []
 len:li.length<=150
section
variable {CD CW:Addr} {H H':Hp} {d x l:Addr} {ns:List Str} {qs:List PA2} {kd:Str} {li:List Str}
theorem DAt.web (h:DAt CD CW H d x l ns qs kd li):WebAt CW H x ns qs:=h.W.same Vr
theorem DAt.same (h:DAt CD CW H d x l ns qs kd li) (s:Same H H'):DAt CD CW H' d x l ns qs kd li :=
 ⟨let ⟨dd,e⟩:=h.ins; ⟨dd,s _ _ e⟩,s _ _ h.at_,h.W.same (Vb s),h.mem,h.ne,h.len⟩
end
noncomputable def J4 (li:List Str):Str:=li.getLast?.getD ""
theorem Ct {li:List Str} (h:li ≠ []):atI (li.map V.str) (-1) = some (.str (J4 li)):=by
 have hp:0 < li.length:=List.length_pos_iff.mpr h
 unfold atI ixN J4
 rw [if_neg (by decide),if_pos (by rw [List.length_map]; omega),Option.bind_some,List.length_map,show ((-1:Int) + (li.length:Int)).toNat = li.length - 1 by omega,List.getElem?_map,List.getLast?_eq_getElem?,List.getElem?_eq_getElem (by omega)]
 rfl
theorem Kd {li:List Str} (h:li ≠ []):J4 li ∈ li:=by
 unfold J4
 rw [List.getLast?_eq_some_getLast h]
 exact List.getLast_mem h
theorem Wc (n:Nat):Builtin.bitAnd (n:Int) 1 = ((n % 2:Nat):Int):=by
 have:=zDa n 1
 rw [Nat.and_one_is_mod] at this
 exact this
theorem Nw {xs:List V} {k:Nat}:Wo xs none (some (k:Int)) = xs.take k:=by
 unfold Wo
 rw [HT.sIx_nat,HT.sIx_none]
 show (xs.drop 0).take (min k xs.length - 0) = _
 rw [List.drop_zero,Nat.sub_zero]
 by_cases h:k<=xs.length
 ·rw [Nat.min_eq_left h]
 ·rw [Nat.min_eq_right (by omega),List.take_length,List.take_of_length_le (by omega)]
theorem Kk {α:Type} (xs:List α):(evs xs).length<=(xs.length + 1) / 2:=by
 unfold evs
 have h:=List.length_filterMap_le (fun k=>xs[2 * k]?) (List.range ((xs.length + 1) / 2))
 rw [List.length_range] at h
 exact h
theorem Pr {α:Type} {xs:List α} {y:α} (h:y ∈ evs xs):y ∈ xs:=by
 unfold evs at h
 obtain ⟨k,_,e⟩:=List.mem_filterMap.mp h
 exact List.mem_of_getElem? e
noncomputable def G0 (li:List Str):Str:=li.headD ""
theorem Dj {li:List Str} (h:li ≠ []):li[0]? = some (G0 li):=by
 cases li with
 | nil=>exact absurd rfl h
 | cons y r=>rfl
theorem Sb {li:List Str} (h:li ≠ []):G0 li ∈ evs li:=by
 unfold evs
 have hp:0 < li.length:=List.length_pos_iff.mpr h
 exact List.mem_filterMap.mpr ⟨0,List.mem_range.mpr (by omega),Dj h⟩
theorem Ei {li:List Str} (h:li ≠ []):G0 li ∈ li:=List.mem_of_getElem? (Dj h)
theorem Rt {li:List Str} (h:li ≠ []):li.take 1 = [G0 li]:=by
 cases li with
 | nil=>exact absurd rfl h
 | cons y r=>rfl
noncomputable def unq (qs:List PA2) (li:List Str):Bool:=decide (Ax qs (G0 li) (G0 li))
theorem quiet_iff {qs:List PA2} {ss:List Str}:J1 qs ss = true ↔ ∀ n ∈ ss,∀ m ∈ ss,¬ Ax qs m n:=by
 unfold J1
 rw [List.all_eq_true]
 constructor
 ·intro h n hn m hm z
  exact of_decide_eq_true (h n hn) ⟨m,hm,z⟩
 ·intro h n hn
  exact decide_eq_true fun ⟨m,hm,z⟩=>h n hn m hm z
theorem Nb (qs:List PA2) (n:Str):J1 qs [n] = !decide (Ax qs n n):=by
 have mn:n ∈ [n]:=List.mem_singleton.mpr rfl
 by_cases h:Ax qs n n
 ·rw [decide_eq_true h]
  exact Bool.eq_false_iff.mpr fun z=>quiet_iff.mp z n mn n mn h
 ·rw [decide_eq_false h]
  exact quiet_iff.mpr fun a ha b hb z=>h (by rw [List.mem_singleton.mp ha,List.mem_singleton.mp hb] at z; exact z)
noncomputable def kdS (f:Bool):Str:=if f = true then "firm" else "some"
noncomputable def K4 (f:Bool) (qs:List PA2) (li:List Str):Str:=if (!f && unq qs li) = true then "asker" else if li.length % 2 = 0 then "asker" else "doubter"
theorem T5 (f:Bool) (qs:List PA2) (li:List Str):K4 f qs li = "doubter"\/K4 f qs li = "asker":=by
 unfold K4
 split
 ·exact .inr rfl
 ·split
  ·exact .inr rfl
  ·exact .inl rfl
noncomputable def Xo (f:Bool) (qs:List PA2) (li:List Str) (n:Str):Bool:=if f = true then !decide (n ∈ evs li) else J1 qs (evs li ++ [n])
noncomputable def V8 (f:Bool) (qs:List PA2) (li:List Str):List Str:=(B3 qs (J4 li)).filter (Xo f qs li)
noncomputable def dbt (qs:List PA2) (own:List Str) (y:Str):Bool:=decide (∃ n ∈ own,Ax qs y n) && !decide (∃ m ∈ own,Ax qs m y)
noncomputable def V4 (f:Bool) (ns:List Str) (qs:List PA2) (li:List Str):List Str:=if f = true then B3 qs (J4 li) else ns.filter (dbt qs (evs li))
noncomputable def C9 (f:Bool) (ns:List Str) (qs:List PA2) (li:List Str):List Str:=if K4 f qs li = "doubter" then V4 f ns qs li else V8 f qs li
noncomputable def Hb (f:Bool) (ns:List Str) (qs:List PA2) (li:List Str):V:=if C9 f ns qs li = [] then (if K4 f qs li = "doubter" then .str "asker" else .str "doubter") else .non
theorem K6 (qs:List PA2) (n:Str):(B3 qs n).length<=qs.length:=by
 unfold B3
 rw [List.length_map]
 exact List.length_filter_le ..
theorem V1 {qs:List PA2} {n y:Str} {ns:List Str} (h:∀ q ∈ qs,q.2.1 ∈ ns/\q.2.2 ∈ ns) (hy:y ∈ B3 qs n):y ∈ ns:=by
 unfold B3 at hy
 obtain ⟨q,hq,rfl⟩:=List.mem_map.mp hy
 exact (h q (List.mem_filter.mp hq).1).1
theorem Jw {f:Bool} {ns:List Str} {qs:List PA2} (ok:WebOk ns qs) (li:List Str):(C9 f ns qs li).length<=200:=by
 have h1:=ok.len
 have h2:=ok.lenq
 unfold C9 V4
 split
 ·split
  ·exact Nat.le_trans (K6 ..) h2
  ·exact Nat.le_trans (List.length_filter_le ..) (by omega)
 ·exact Nat.le_trans (List.length_filter_le ..) (Nat.le_trans (K6 ..) h2)
theorem Ef {f:Bool} {ns:List Str} {qs:List PA2} {li:List Str} {y:Str} (h:∀ q ∈ qs,q.2.1 ∈ ns/\q.2.2 ∈ ns) (hy:y ∈ C9 f ns qs li):y ∈ ns:=by
 unfold C9 V4 at hy
 split at hy
 ·split at hy
  ·exact V1 h hy
  ·exact (List.mem_filter.mp hy).1
 ·exact V1 h (List.mem_filter.mp hy).1
theorem zBp {a b:List Str} (h1:a.Pairwise leS) (h2:b.Pairwise leS) (n1:a.Nodup) (n2:b.Nodup) (h:∀ y,y ∈ a ↔ y ∈ b):a = b:=Z8 h1 h2 ((List.perm_ext_iff_of_nodup n1 n2).mpr h)
section
variable {P:Program} {w:World} {K:PySem.W.Frag} {mg:Str->Option Value} {base:Heap}
theorem O2:FnScope ["self"] ["self"] (B5 s_Dp_begins_unquiet):=⟨rfl,rfl,rfl,by decide +kernel,rfl,by decide +kernel,by decide +kernel⟩
noncomputable def Bw (CD CW:Addr):Sp:=fun vs H Q _=>∃ f d x l ns qs li,vs = [.ref d]/\DAt CD CW H d x l ns qs (kdS f) li/\∀ H',Same H H'->Q (.bl (!f && unq qs li)) H'
theorem T8 (T:Tx K mg):FnOk P w K mg base CX0 5 T.mDp_begins_unquiet.f T.mDp_begins_unquiet.fd ["self"] (Bw T.CDp T.CWeb):=by
 have G_is_quiet:FnOk P w K mg base CX0 4 T.is_quiet.f T.is_quiet.fd ["web", "some"] (Hq K T.CWeb fun _=>J1):=Aq T
 have sc:=O2
 refine T.mDp_begins_unquiet.F.ok O2 (fun vs H Q E h=>?_) (fun cdv A outer s H vs Q E hr h=>?_)
 ·obtain ⟨f,d,x,l,ns,qs,li,rfl,_⟩:=h
  rfl
 ·obtain ⟨f,d,x,l,ns,qs,li,rfl,hD,q⟩:=h
  obtain ⟨dd,e⟩:=hD.ins
  refine ⟨_,(B1 (C0 (g9 (I9 Q7 (peF K (pv 0)) D9 (C8 _)) (u9 (Tw (E4 T.is_quiet G_is_quiet (hr.mono (by decide)) (A6 (peF K (pv 0)) (A6 (Sh (slL K) (peF K (pv 0)) Nl (Dr B4)) A9)))))))),?_⟩
  cases f with
  | true=>exact ex1 rfl ⟨d,T.CDp,dd,_,_,rfl,e,T.clDp,T.nDp_kind,rfl,rfl,ex1 rfl (O4 (q H (Same.refl _)))⟩
  | false =>
   refine ex1 rfl ⟨d,T.CDp,dd,_,_,rfl,e,T.clDp,T.nDp_kind,rfl,rfl,ex1 rfl (T6 ?_)⟩
   refine ex1 rfl ⟨d,T.CDp,dd,_,_,rfl,e,T.clDp,T.nDp_web,rfl,?_⟩
   refine ex1 rfl ⟨d,T.CDp,dd,_,_,rfl,e,T.clDp,T.nDp_line,rfl,?_⟩
   refine ⟨_,rfl,l,_,rfl,SqL.of hD.at_,fun a ha=>?_⟩
   rw [show (some (1:Int)) = some ((1:Nat):Int) from rfl,Nw,<-List.map_take,Rt hD.ne]
   have u:=Same.new (o:=.lst ([G0 li].map V.str)) ha
   refine ⟨x,a,[G0 li],ns,qs,rfl,hD.web.same u,.inl (SqL.of A7),fun n hn=>by rw [List.mem_singleton.mp hn]; exact hD.mem _ (Ei hD.ne),by simp,fun H' s'=>⟨_,rfl,?_⟩⟩
   show Q (.bl (!J1 qs [G0 li])) H'
   rw [Nb,Bool.not_not]
   exact q H' (u.trans s')
theorem Bs:FnScope ["self"] ["self"] (B5 s_Dp_turn):=⟨rfl,rfl,rfl,by decide +kernel,rfl,by decide +kernel,by decide +kernel⟩
noncomputable def Dp (CD CW:Addr):Sp:=fun vs H Q _=>∃ f d x l ns qs li,vs = [.ref d]/\DAt CD CW H d x l ns qs (kdS f) li/\∀ H',Same H H'->Q (.str (K4 f qs li)) H'
theorem Y7 (T:Tx K mg):FnOk P w K mg base CX0 6 T.mDp_turn.f T.mDp_turn.fd ["self"] (Dp T.CDp T.CWeb):=by
 have G_Dp_begins_unquiet:FnOk P w K mg base CX0 5 T.mDp_begins_unquiet.f T.mDp_begins_unquiet.fd ["self"] (Bw T.CDp T.CWeb):=T8 T
 have sc:=Bs
 refine T.mDp_turn.F.ok Bs (fun vs H Q E h=>?_) (fun cdv A outer s H vs Q E hr h=>?_)
 ·obtain ⟨f,d,x,l,ns,qs,li,rfl,_⟩:=h
  rfl
 ·obtain ⟨f,d,x,l,ns,qs,li,rfl,hD,q⟩:=h
  obtain ⟨dd,e⟩:=hD.ins
  refine ⟨_,(B0 (I0 (PW.pt (Dx (M0 (C6 (pv 0) T.clDp T.mDp_begins_unquiet.m G_Dp_begins_unquiet (hr.mono (by decide)) T.mDp_begins_unquiet.b .nil F0)) (W7 (B9 Q7 (K0 Ym (D0 (O7 K) T.b_len O3 (A6 (peF K (pv 0)) A9)) B4) B4 (C8 _))))) (B1 (C0 D9)) C1)
   (B1 (C0 D9))),?_⟩
  refine ex1 rfl ⟨d,dd,_,rfl,e,rfl,f,d,x,l,ns,qs,li,rfl,hD,fun H1 s1=>⟨_,rfl,?_⟩⟩
  have q:=q H1 s1
  unfold K4 at q
  have hD1:=hD.same s1
  cases c0:(!f && unq qs li) with
  | true =>
   rw [c0,if_pos rfl] at q
   exact T6 (T6 q)
  | false =>
   rw [c0,if_neg (by decide)] at q
   refine O4 ?_
   refine ex1 rfl ⟨d,T.CDp,dd,_,_,rfl,s1 _ _ e,T.clDp,T.nDp_line,rfl,l,_,rfl,.inl (SqL.of hD1.at_),B7 rfl rfl ⟨rfl,ex1 rfl ?_⟩⟩
   rw [List.length_map,show (fun i j=>V.int (Builtin.bitAnd i j)) (li.length:Int) 1 = V.int ((li.length % 2:Nat):Int) from congrArg V.int (Wc _)]
   by_cases c:li.length % 2 = 0
   ·rw [if_pos c] at q
    rw [decide_eq_true (show V.int ((li.length % 2:Nat):Int) = V.int 0 by rw [c]; rfl)]
    exact T6 q
   ·rw [if_neg c] at q
    rw [decide_eq_false (show ¬ V.int ((li.length % 2:Nat):Int) = V.int 0 from fun z=>c (by have:=V.int.inj z; omega))]
    exact O4 q
theorem P3:FnScope ["self"] ["self"] (B5 s_Dp_askers_names):=⟨rfl,rfl,rfl,by decide +kernel,rfl,by decide +kernel,by decide +kernel⟩
noncomputable def Ak (CD CW:Addr):Sp:=fun vs H Q _=>∃ f d x l ns qs li,vs = [.ref d]/\DAt CD CW H d x l ns qs (kdS f) li/\∀ a,H a = none->Q (.ref a) (upd H a (.lst ((evs li).map V.str)))
theorem P5 (T:Tx K mg):FnOk P w K mg base CX0 1 T.mDp_askers_names.f T.mDp_askers_names.fd ["self"] (Ak T.CDp T.CWeb):=by
 have sc:=P3
 refine T.mDp_askers_names.F.ok P3 (fun vs H Q E h=>?_) (fun cdv A outer s H vs Q E hr h=>?_)
 ·obtain ⟨f,d,x,l,ns,qs,li,rfl,_⟩:=h
  rfl
 ·obtain ⟨f,d,x,l,ns,qs,li,rfl,hD,q⟩:=h
  obtain ⟨dd,e⟩:=hD.ins
  refine ⟨_,(B1 (C0 (Fq K (peF K (pv 0)) Nl (Dr B4)))),?_⟩
  refine ex1 rfl ⟨d,T.CDp,dd,_,_,rfl,e,T.clDp,T.nDp_line,rfl,⟨_,rfl,.inl rfl,rfl,l,_,rfl,SqL.of hD.at_,fun a ha=>?_⟩⟩
  rw [Mv]
  exact q a ha
theorem R8:FnScope ["self", "name", "mine"] ["self", "name"] (B5 s_Dp_may_answer):=⟨rfl,rfl,rfl,by decide +kernel,rfl,by decide +kernel,by decide +kernel⟩
noncomputable def To (CD CW:Addr):Sp:=fun vs H Q _=>∃ f d n x l ns qs li,vs = [.ref d,.str n]/\DAt CD CW H d x l ns qs (kdS f) li/\n ∈ ns/\∀ H',Same H H'->Q (.bl (Xo f qs li n)) H'
theorem n9 (T:Tx K mg):FnOk P w K mg base CX0 5 T.mDp_may_answer.f T.mDp_may_answer.fd ["self", "name"] (To T.CDp T.CWeb):=by
 have G_Dp_askers_names:FnOk P w K mg base CX0 1 T.mDp_askers_names.f T.mDp_askers_names.fd ["self"] (Ak T.CDp T.CWeb):=P5 T
 have G_is_quiet:FnOk P w K mg base CX0 4 T.is_quiet.f T.is_quiet.fd ["web", "some"] (Hq K T.CWeb fun _=>J1):=Aq T
 have sc:=R8
 refine T.mDp_may_answer.F.ok R8 (fun vs H Q E h=>?_) (fun cdv A outer s H vs Q E hr h=>?_)
 ·obtain ⟨f,d,n,x,l,ns,qs,li,rfl,_⟩:=h
  rfl
 ·obtain ⟨f,d,n,x,l,ns,qs,li,rfl,hD,hn,q⟩:=h
  obtain ⟨dd,e⟩:=hD.ins
  refine ⟨_,(B0 (C5 (i:=2) sc.nd rfl (by first | exact Or.inl rfl | exact Or.inr rfl) (C6 (pv 0) T.clDp T.mDp_askers_names.m G_Dp_askers_names (hr.mono (by decide)) T.mDp_askers_names.b .nil F0))
   (B0 (I0 (B9 Q7 (peF K (pv 0)) D9 (C8 _)) (B1 (C0 (I9 (P4 K) (pv 1) (pv 2) rfl))) C1)
   (B1 (C0 (E4 T.is_quiet G_is_quiet (hr.mono (by decide)) (A6 (peF K (pv 0)) (A6 (K0 Te (pv 2) (G8 (A6 (pv 1) A9))) A9))))))),?_⟩
  refine B6 fun N1 hN1=>?_
  refine ex1 rfl ⟨d,dd,_,rfl,e,rfl,f,d,x,l,ns,qs,li,rfl,hD,fun a ha=>?_⟩
  have u:=Same.new (o:=.lst ((evs li).map V.str)) ha
  have g:(upd H a (.lst ((evs li).map V.str))) a = some (.lst ((evs li).map V.str)):=A7
  generalize upd H a (.lst ((evs li).map V.str)) = H1 at u g ⊢
  have le:=Kk li
  have ll:=hD.len
  refine hN1 _ _ (B6 fun N2 hN2=>?_)
  cases f with
  | true =>
   refine ex1 rfl ⟨d,T.CDp,dd,_,_,rfl,u _ _ e,T.clDp,T.nDp_kind,rfl,⟨rfl,ex1 rfl (T6 ?_)⟩⟩
   exact ex1 rfl (ex1 rfl (J2 (.inl (SqL.of g)) (q _ u)))
  | false =>
   refine ex1 rfl ⟨d,T.CDp,dd,_,_,rfl,u _ _ e,T.clDp,T.nDp_kind,rfl,⟨rfl,ex1 rfl (O4 ?_)⟩⟩
   refine hN2 _ _ ?_
   refine ex1 rfl ⟨d,T.CDp,dd,_,_,rfl,u _ _ e,T.clDp,T.nDp_web,rfl,?_⟩
   refine ex1 rfl (ex1 rfl ⟨by show 1<=sizeLine; decide,fun b hb=>?_⟩)
   have u2:=Same.new (o:=.lst [.str n]) hb
   refine ⟨a,b,_,_,rfl,rfl,u2 _ _ g,A7,by rw [List.length_map,sizeLine_eq]; show _ + 1<=_; omega,fun g' hg=>?_⟩
   have u3:=(u.trans u2).trans (Same.new (o:=.lst ((evs li).map V.str ++ [.str n])) hg)
   refine ⟨x,g',evs li ++ [n],ns,qs,rfl,hD.web.same u3,.inl (SqL.of (by rw [A7,List.map_append]; rfl)),fun y hy=>?_,by rw [List.length_append,List.length_singleton]; omega,fun H' s'=>q H' (u3.trans s')⟩
   rcases List.mem_append.mp hy with hy | hy
   ·exact hD.mem y (Pr hy)
   ·rw [List.mem_singleton.mp hy]; exact hn
end
end Sw
namespace Sw
open PySem L2
theorem Pa {qs:List PA2} {own:List Str} {y:Str}:dbt qs own y = true ↔ (∃ n ∈ own,Ax qs y n)/\¬ ∃ m ∈ own,Ax qs m y:=by
 unfold dbt
 rw [Bool.and_eq_true,Bool.not_eq_true',decide_eq_true_iff,decide_eq_false_iff_not]
theorem Na {ns:List Str} {qs:List PA2} {a b:Str} (h:∀ q ∈ qs,q.2.1 ∈ ns/\q.2.2 ∈ ns) (s:Ax qs a b):a ∈ ns:=by
 obtain ⟨q,hq,rfl,_⟩:=s
 exact (h q hq).1
section
variable {P:Program} {w:World} {K:PySem.W.Frag} {mg:Str->Option Value} {base:Heap}
theorem d7:FnScope ["self", "mine", "hit"] ["self"] (B5 s_Dp_doubts):=⟨rfl,rfl,rfl,by decide +kernel,rfl,by decide +kernel,by decide +kernel⟩
noncomputable def Ex (CD CW:Addr):Sp:=fun vs H Q _=>∃ f d x l ns qs li,vs = [.ref d]/\DAt CD CW H d x l ns qs (kdS f) li/\∀ a H',Same H H'->H a = none->H' a = some (.lst ((V4 f ns qs li).map V.str))->Q (.ref a) H'
set_option maxHeartbeats 1000000 in
theorem Gm (T:Tx K mg):FnOk P w K mg base CX0 4 T.mDp_doubts.f T.mDp_doubts.fd ["self"] (Ex T.CDp T.CWeb):=by
 have G_Web_strikers:FnOk P w K mg base CX0 2 T.mWeb_strikers.f T.mWeb_strikers.fd ["self", "name"] (O8 T.CWeb):=J8 T
 have G_Dp_askers_names:FnOk P w K mg base CX0 1 T.mDp_askers_names.f T.mDp_askers_names.fd ["self"] (Ak T.CDp T.CWeb):=P5 T
 have G_struck_by_any:FnOk P w K mg base CX0 3 T.struck_by_any.f T.struck_by_any.fd ["web", "some"] (Gf K T.CWeb D6):=R4 T
 have G_strikers_of_any:FnOk P w K mg base CX0 3 T.strikers_of_any.f T.strikers_of_any.fd ["web", "some"] (Gf K T.CWeb B3):=V9 T
 have sc:=d7
 refine T.mDp_doubts.F.ok d7 (fun vs H Q E h=>?_) (fun cdv A outer s H vs Q E hr h=>?_)
 ·obtain ⟨f,d,x,l,ns,qs,li,rfl,_⟩:=h
  rfl
 ·obtain ⟨f,d,x,l,ns,qs,li,rfl,hD,q⟩:=h
  obtain ⟨dd,e⟩:=hD.ins
  have okw:=hD.W.ok
  refine ⟨_,(B0 (I0 (B9 Q7 (peF K (pv 0)) D9 (C8 _)) (B1 (C0 (P0 (peF K (pv 0)) T.clWeb T.mWeb_strikers.m G_Web_strikers (hr.mono (by decide)) T.mWeb_strikers.b .nil F0 (A6 (E3 (ixL K) (peF K (pv 0)) (Td Jn B4) (fun _ _=>rfl)) A9)))) C1)
   (B0 (C5 (i:=1) sc.nd rfl (by first | exact Or.inl rfl | exact Or.inr rfl) (C6 (pv 0) T.clDp T.mDp_askers_names.m G_Dp_askers_names (hr.mono (by decide)) T.mDp_askers_names.b .nil F0))
   (B0 (C5 (i:=2) sc.nd rfl (by first | exact Or.inl rfl | exact Or.inr rfl) (E4 T.struck_by_any G_struck_by_any (hr.mono (by decide)) (A6 (peF K (pv 0)) (A6 (pv 1) A9))))
   (B1 (C0 (Aw (N':=["name", "hit"]) (cap:=[none,some 2]) (cl:=[("hit",_)]) (V2 ⟨⟨rfl,rfl,rfl,rfl⟩,trivial⟩ ⟨rfl,trivial⟩) rfl (piL K (E4 T.strikers_of_any G_strikers_of_any (hr.mono (by decide)) (A6 (peF K (pv 0)) (A6 (pv 1) A9)))) (fun _ _ _ _=>by exact ⟨(pgC 0),(Z7 (B9 (P4 K) (pv 0) (pv 1) rfl)),(pv 0)⟩))))))),?_⟩
  refine B6 fun N1 hN1=>?_
  unfold V4 at q
  cases f with
  | true =>
   rw [if_pos rfl] at q
   obtain ⟨ok,dx,a1,b1,c1,d1,kc,kd,ew,_⟩:=id hD.web
   refine ex1 rfl ⟨d,T.CDp,dd,_,_,rfl,e,T.clDp,T.nDp_kind,rfl,⟨rfl,ex1 rfl (T6 ?_)⟩⟩
   refine ex1 rfl ⟨d,T.CDp,dd,_,_,rfl,e,T.clDp,T.nDp_web,rfl,x,dx,_,rfl,ew,rfl,?_⟩
   refine ex1 rfl ⟨d,T.CDp,dd,_,_,rfl,e,T.clDp,T.nDp_line,rfl,?_⟩
   exact ⟨_,rfl,l,_,B7 rfl rfl ⟨SqL.of hD.at_,Ct hD.ne,x,J4 li,ns,qs,rfl,hD.web,hD.mem _ (Kd hD.ne),fun a ha=>q a _ (Same.new ha) ha A7⟩⟩
  | false =>
   rw [if_neg (by decide)] at q
   refine ex1 rfl ⟨d,T.CDp,dd,_,_,rfl,e,T.clDp,T.nDp_kind,rfl,⟨rfl,ex1 rfl (O4 ?_)⟩⟩
   refine hN1 _ _ (B6 fun N2 hN2=>?_)
   refine ex1 rfl ⟨d,dd,_,rfl,e,rfl,false,d,x,l,ns,qs,li,rfl,hD,fun a ha=>?_⟩
   have u:=Same.new (o:=.lst ((evs li).map V.str)) ha
   have g0:(upd H a (.lst ((evs li).map V.str))) a = some (.lst ((evs li).map V.str)):=A7
   generalize upd H a (.lst ((evs li).map V.str)) = H1 at u g0 ⊢
   have me:∀ n ∈ evs li,n ∈ ns:=fun n hn=>hD.mem n (Pr hn)
   refine hN2 _ _ (B6 fun N3 hN3=>?_)
   refine ex1 rfl ⟨d,T.CDp,dd,_,_,rfl,u _ _ e,T.clDp,T.nDp_web,rfl,?_⟩
   refine ex1 rfl ⟨x,a,evs li,ns,qs,rfl,hD.web.same u,.inl (SqL.of g0),me,fun b hs H2 hb s2 eb hm hw hnd hl=>?_⟩
   have u2:=u.trans s2
   refine hN3 _ _ ?_
   refine ex1 rfl ⟨d,T.CDp,dd,_,_,rfl,u2 _ _ e,T.clDp,T.nDp_web,rfl,?_⟩
   refine ex1 rfl ⟨x,a,evs li,ns,qs,rfl,hD.web.same u2,.inl (SqL.of (s2 _ _ g0)),me,fun g gs H3 hg s3 eg gm gw gnd gl=>?_⟩
   have u3:=u2.trans s3
   have em:gs.filter (fun y=>!decide (y ∈ hs)) = ns.filter (dbt qs (evs li)):=by
    refine zBp (gw.filter _) (okw.srt.filter _) (gnd.filter _) (okw.nd.filter _) fun y=>?_
    rw [List.mem_filter,List.mem_filter,Pa,gm,Bool.not_eq_true',decide_eq_false_iff_not,hm]
    constructor
    ·rintro ⟨⟨n,hn,h1⟩,h2⟩
     have h1:=strk_strikers.mp h1
     exact ⟨Na okw.mem h1,⟨n,hn,h1⟩,fun ⟨m,h3,h4⟩=>h2 ⟨m,h3,strk_struck.mpr h4⟩⟩
    ·rintro ⟨_,⟨n,hn,h1⟩,h2⟩
     exact ⟨⟨n,hn,strk_strikers.mpr h1⟩,fun ⟨m,h3,h4⟩=>h2 ⟨m,h3,strk_struck.mp h4⟩⟩
   refine ⟨g,rfl,⟨_,SqL.of eg⟩,fun D hD'=>?_⟩
   refine Ai (fun y=>!decide (y ∈ hs)) eg (by omega) hD' (fun y hy G sG Q' hQ'=>?_) (fun σ G sG eG=>q D G (u3.trans sG) (u3.free hD') (by rw [<-em]; exact eG)) none
   exact ex1 rfl (ex1 rfl (J2 (.inl (SqL.of (sG _ _ (s3 _ _ eb)))) ⟨_,rfl,hQ' _ (Same.refl _)⟩))
theorem W4:FnScope ["self"] ["self"] (B5 s_Dp_answers):=⟨rfl,rfl,rfl,by decide +kernel,rfl,by decide +kernel,by decide +kernel⟩
noncomputable def Bi (CD CW:Addr):Sp:=fun vs H Q _=>∃ f d x l ns qs li,vs = [.ref d]/\DAt CD CW H d x l ns qs (kdS f) li/\∀ a H',Same H H'->H a = none->H' a = some (.lst ((V8 f qs li).map V.str))->Q (.ref a) H'
theorem Co (T:Tx K mg):FnOk P w K mg base CX0 6 T.mDp_answers.f T.mDp_answers.fd ["self"] (Bi T.CDp T.CWeb):=by
 have G_Web_strikers:FnOk P w K mg base CX0 2 T.mWeb_strikers.f T.mWeb_strikers.fd ["self", "name"] (O8 T.CWeb):=J8 T
 have G_Dp_may_answer:FnOk P w K mg base CX0 5 T.mDp_may_answer.f T.mDp_may_answer.fd ["self", "name"] (To T.CDp T.CWeb):=n9 T
 have sc:=W4
 refine T.mDp_answers.F.ok W4 (fun vs H Q E h=>?_) (fun cdv A outer s H vs Q E hr h=>?_)
 ·obtain ⟨f,d,x,l,ns,qs,li,rfl,_⟩:=h
  rfl
 ·obtain ⟨f,d,x,l,ns,qs,li,rfl,hD,q⟩:=h
  obtain ⟨dd,e⟩:=hD.ins
  obtain ⟨ok,dx,a1,b1,c1,d1,kc,kd,ew,_⟩:=id hD.web
  refine ⟨_,(B1 (C0 (Aw (N':=["name", "self"]) (cap:=[none,some 0]) (cl:=[("self",_)]) (V2 ⟨⟨rfl,rfl,rfl,rfl⟩,trivial⟩ ⟨rfl,trivial⟩) rfl (piL K (P0 (peF K (pv 0)) T.clWeb T.mWeb_strikers.m G_Web_strikers (hr.mono (by decide)) T.mWeb_strikers.b .nil F0 (A6 (E3 (ixL K) (peF K (pv 0)) (Td Jn B4) (fun _ _=>rfl)) A9))) (fun _ _ _ _=>by exact ⟨(pgC 0),(Z7 (M0 (P0 (pv 1) T.clDp T.mDp_may_answer.m G_Dp_may_answer (hr.mono (by decide)) T.mDp_may_answer.b .nil F0 (A6 (pv 0) A9)))),(pv 0)⟩)))),?_⟩
  refine ex1 rfl ⟨d,T.CDp,dd,_,_,rfl,e,T.clDp,T.nDp_web,rfl,x,dx,_,rfl,ew,rfl,?_⟩
  refine ex1 rfl ⟨d,T.CDp,dd,_,_,rfl,e,T.clDp,T.nDp_line,rfl,?_⟩
  refine ⟨_,rfl,l,_,B7 rfl rfl ⟨SqL.of hD.at_,Ct hD.ne,x,J4 li,ns,qs,rfl,hD.web,hD.mem _ (Kd hD.ne),fun a ha=>?_⟩⟩
  have u1:=Same.new (o:=.lst ((B3 qs (J4 li)).map V.str)) ha
  have f1:(upd H a (.lst ((B3 qs (J4 li)).map V.str))) a = some (.lst ((B3 qs (J4 li)).map V.str)):=A7
  generalize upd H a (.lst ((B3 qs (J4 li)).map V.str)) = H1 at u1 f1 ⊢
  refine ⟨a,rfl,⟨_,SqL.of f1⟩,fun D hD'=>?_⟩
  have ls:=K6 qs (J4 li)
  have lq:=ok.lenq
  refine Ai (Xo f qs li) f1 (by omega) hD' (fun y hy G sG Q' hQ'=>?_) (fun σ G sG eG=>q D G (u1.trans sG) (u1.free hD') eG) none
  have sG':=u1.trans sG
  exact ex1 rfl ⟨d,dd,_,rfl,sG' _ _ e,rfl,ex1 rfl ⟨f,d,y,x,l,ns,qs,li,rfl,hD.same sG',V1 ok.mem hy,fun G2 s2=>⟨_,rfl,hQ' _ s2⟩⟩⟩
theorem Ah:FnScope ["self"] ["self"] (B5 s_Dp_moves):=⟨rfl,rfl,rfl,by decide +kernel,rfl,by decide +kernel,by decide +kernel⟩
noncomputable def o8 (CD CW:Addr):Sp:=fun vs H Q _=>∃ f d x l ns qs li,vs = [.ref d]/\DAt CD CW H d x l ns qs (kdS f) li/\∀ a H',Same H H'->H a = none->H' a = some (.lst ((C9 f ns qs li).map V.str))->Q (.ref a) H'
theorem U7 (T:Tx K mg):FnOk P w K mg base CX0 7 T.mDp_moves.f T.mDp_moves.fd ["self"] (o8 T.CDp T.CWeb):=by
 have G_Dp_turn:FnOk P w K mg base CX0 6 T.mDp_turn.f T.mDp_turn.fd ["self"] (Dp T.CDp T.CWeb):=Y7 T
 have G_Dp_doubts:FnOk P w K mg base CX0 4 T.mDp_doubts.f T.mDp_doubts.fd ["self"] (Ex T.CDp T.CWeb):=Gm T
 have G_Dp_answers:FnOk P w K mg base CX0 6 T.mDp_answers.f T.mDp_answers.fd ["self"] (Bi T.CDp T.CWeb):=Co T
 have sc:=Ah
 refine T.mDp_moves.F.ok Ah (fun vs H Q E h=>?_) (fun cdv A outer s H vs Q E hr h=>?_)
 ·obtain ⟨f,d,x,l,ns,qs,li,rfl,_⟩:=h
  rfl
 ·obtain ⟨f,d,x,l,ns,qs,li,rfl,hD,q⟩:=h
  obtain ⟨dd,e⟩:=hD.ins
  refine ⟨_,(B0 (I0 (B9 Q7 (C6 (pv 0) T.clDp T.mDp_turn.m G_Dp_turn (hr.mono (by decide)) T.mDp_turn.b .nil F0) D9 (C8 _)) (B1 (C0 (C6 (pv 0) T.clDp T.mDp_doubts.m G_Dp_doubts (hr.mono (by decide)) T.mDp_doubts.b .nil F0))) C1)
   (B1 (C0 (C6 (pv 0) T.clDp T.mDp_answers.m G_Dp_answers (hr.mono (by decide)) T.mDp_answers.b .nil F0)))),?_⟩
  refine ex1 rfl ⟨d,dd,_,rfl,e,rfl,f,d,x,l,ns,qs,li,rfl,hD,fun H1 s1=>⟨rfl,ex1 rfl ?_⟩⟩
  have hD1:=hD.same s1
  unfold C9 at q
  rcases T5 f qs li with c | c
  ·rw [c,if_pos rfl] at q
   rw [c]
   refine T6 (ex1 rfl ⟨d,dd,_,rfl,s1 _ _ e,rfl,f,d,x,l,ns,qs,li,rfl,hD1,fun a H2 s2 ha ea=>q a H2 (s1.trans s2) (s1.free ha) ea⟩)
  ·rw [c,if_neg (by decide)] at q
   rw [c]
   refine O4 (ex1 rfl ⟨d,dd,_,rfl,s1 _ _ e,rfl,f,d,x,l,ns,qs,li,rfl,hD1,fun a H2 s2 ha ea=>q a H2 (s1.trans s2) (s1.free ha) ea⟩)
theorem y4:FnScope ["self"] ["self"] (B5 s_Dp_named):=⟨rfl,rfl,rfl,by decide +kernel,rfl,by decide +kernel,by decide +kernel⟩
noncomputable def Ir (CD CW:Addr):Sp:=fun vs H Q _=>∃ f d x l ns qs li,vs = [.ref d]/\DAt CD CW H d x l ns qs (kdS f) li/\∀ a,H a = none->Q (.ref a) (upd H a (.lst (li.map V.str)))
theorem Ht (T:Tx K mg):FnOk P w K mg base CX0 1 T.mDp_named.f T.mDp_named.fd ["self"] (Ir T.CDp T.CWeb):=by
 have sc:=y4
 refine T.mDp_named.F.ok y4 (fun vs H Q E h=>?_) (fun cdv A outer s H vs Q E hr h=>?_)
 ·obtain ⟨f,d,x,l,ns,qs,li,rfl,_⟩:=h
  rfl
 ·obtain ⟨f,d,x,l,ns,qs,li,rfl,hD,q⟩:=h
  obtain ⟨dd,e⟩:=hD.ins
  refine ⟨_,(B1 (C0 (Dw (Au K) T.b_list T1 (A6 (peF K (pv 0)) A9)))),?_⟩
  exact ex1 rfl ⟨d,T.CDp,dd,_,_,rfl,e,T.clDp,T.nDp_line,rfl,l,_,rfl,.inl (SqL.of hD.at_),q⟩
theorem f7:FnScope ["self"] ["self"] (B5 s_Dp_winner):=⟨rfl,rfl,rfl,by decide +kernel,rfl,by decide +kernel,by decide +kernel⟩
noncomputable def Gw (CD CW:Addr):Sp:=fun vs H Q _=>∃ f d x l ns qs li,vs = [.ref d]/\DAt CD CW H d x l ns qs (kdS f) li/\∀ H',Same H H'->Q (Hb f ns qs li) H'
theorem Fe (T:Tx K mg):FnOk P w K mg base CX0 8 T.mDp_winner.f T.mDp_winner.fd ["self"] (Gw T.CDp T.CWeb):=by
 have G_Dp_turn:FnOk P w K mg base CX0 6 T.mDp_turn.f T.mDp_turn.fd ["self"] (Dp T.CDp T.CWeb):=Y7 T
 have G_Dp_moves:FnOk P w K mg base CX0 7 T.mDp_moves.f T.mDp_moves.fd ["self"] (o8 T.CDp T.CWeb):=U7 T
 have sc:=f7
 refine T.mDp_winner.F.ok f7 (fun vs H Q E h=>?_) (fun cdv A outer s H vs Q E hr h=>?_)
 ·obtain ⟨f,d,x,l,ns,qs,li,rfl,_⟩:=h
  rfl
 ·obtain ⟨f,d,x,l,ns,qs,li,rfl,hD,q⟩:=h
  obtain ⟨dd,e⟩:=hD.ins
  refine ⟨_,(B0 (I0 (ptV K (C6 (pv 0) T.clDp T.mDp_moves.m G_Dp_moves (hr.mono (by decide)) T.mDp_moves.b .nil F0)) (B1 (C0 Qb)) C1)
   (B0 (I0 (B9 Q7 (C6 (pv 0) T.clDp T.mDp_turn.m G_Dp_turn (hr.mono (by decide)) T.mDp_turn.b .nil F0) D9 (C8 _)) (B1 (C0 D9)) C1)
   (B1 (C0 D9)))),?_⟩
  refine ex1 rfl ⟨d,dd,_,rfl,e,rfl,f,d,x,l,ns,qs,li,rfl,hD,fun a H1 s1 ha ea=>?_⟩
  have hD1:=hD.same s1
  have e1:=s1 _ _ e
  refine ⟨_,.inl ⟨_,SqL.of ea,rfl⟩,?_⟩
  unfold Hb at q
  cases hm:C9 f ns qs li with
  | cons y r =>
   rw [hm,if_neg (by intro z; cases z)] at q
   exact T6 (q _ s1)
  | nil =>
   rw [hm,if_pos rfl] at q
   refine O4 ?_
   refine ex1 rfl ⟨d,dd,_,rfl,e1,rfl,f,d,x,l,ns,qs,li,rfl,hD1,fun H2 s2=>⟨rfl,ex1 rfl ?_⟩⟩
   rcases T5 f qs li with c | c
   ·rw [c,if_pos rfl] at q
    rw [c]
    exact T6 (q _ (s1.trans s2))
   ·rw [c,if_neg (by decide)] at q
    rw [c]
    exact O4 (q _ (s1.trans s2))
theorem Bz:FnScope ["self", "name"] ["self", "name"] (B5 s_Dp_play):=⟨rfl,rfl,rfl,by decide +kernel,rfl,by decide +kernel,by decide +kernel⟩
noncomputable def Mm (CD CW:Addr):Sp:=fun vs H Q _=>∃ f d n x l ns qs li,vs = [.ref d,.str n]/\DAt CD CW H d x l ns qs (kdS f) li/\n ∈ C9 f ns qs li/\∀ H',Same H H'->Q .non (upd H' l (.lst ((li ++ [n]).map V.str)))
theorem Lv (T:Tx K mg):FnOk P w K mg base CX0 8 T.mDp_play.f T.mDp_play.fd ["self", "name"] (Mm T.CDp T.CWeb):=by
 have G_Dp_moves:FnOk P w K mg base CX0 7 T.mDp_moves.f T.mDp_moves.fd ["self"] (o8 T.CDp T.CWeb):=U7 T
 have sc:=Bz
 refine T.mDp_play.F.ok Bz (fun vs H Q E h=>?_) (fun cdv A outer s H vs Q E hr h=>?_)
 ·obtain ⟨f,d,n,x,l,ns,qs,li,rfl,_⟩:=h
  rfl
 ·obtain ⟨f,d,n,x,l,ns,qs,li,rfl,hD,hn,k⟩:=h
  obtain ⟨dd,e⟩:=hD.ins
  refine ⟨_,(B0 (I0 (B9 (P4 K) (pv 1) (C6 (pv 0) T.clDp T.mDp_moves.m G_Dp_moves (hr.mono (by decide)) T.mDp_moves.b .nil F0) rfl) (B1 X3) C1)
   (B1 (C7 (Iy K PySem.F.plainAttrs_list PySem.F.slot_list_append PySem.F.type_list_append E8 (peF K (pv 0)) (A6 (pv 1) A9))))),?_⟩
  refine B6 fun N1 hN1=>?_
  refine ex1 rfl (ex1 rfl ⟨d,dd,_,rfl,e,rfl,f,d,x,l,ns,qs,li,rfl,hD,fun a H1 s1 ha ea=>J2 (.inl (SqL.of ea)) ⟨_,rfl,?_⟩⟩)
  rw [decide_eq_true hn]
  refine O4 (hN1 _ _ ?_)
  have e1:=s1 _ _ hD.at_
  refine ex1 rfl ⟨d,T.CDp,dd,_,_,rfl,s1 _ _ e,T.clDp,T.nDp_line,rfl,.inl ⟨rfl,_,SqL.of e1⟩,ex1 rfl ⟨_,B7 rfl rfl ⟨e1,?_,?_⟩⟩⟩
  ·have:=hD.len
   rw [List.length_map,sizeLine_eq]; omega
  ·have:=k H1 s1
   rw [List.map_append] at this
   exact this
theorem Br:FnScope ["self"] ["self"] (B5 s_Dp_back):=⟨rfl,rfl,rfl,by decide +kernel,rfl,by decide +kernel,by decide +kernel⟩
noncomputable def Pu (CD CW:Addr):Sp:=fun vs H Q _=>∃ f d x l ns qs li,vs = [.ref d]/\DAt CD CW H d x l ns qs (kdS f) li/\li.length ≠ 1/\Q .non (upd H l (.lst (li.dropLast.map V.str)))
theorem Km (T:Tx K mg):FnOk P w K mg base CX0 1 T.mDp_back.f T.mDp_back.fd ["self"] (Pu T.CDp T.CWeb):=by
 have sc:=Br
 refine T.mDp_back.F.ok Br (fun vs H Q E h=>?_) (fun cdv A outer s H vs Q E hr h=>?_)
 ·obtain ⟨f,d,x,l,ns,qs,li,rfl,_⟩:=h
  rfl
 ·obtain ⟨f,d,x,l,ns,qs,li,rfl,hD,hn,k⟩:=h
  obtain ⟨dd,e⟩:=hD.ins
  refine ⟨_,(B0 (I0 (B9 Q7 (D0 (O7 K) T.b_len O3 (A6 (peF K (pv 0)) A9)) B4 (C8 _)) (B1 X3) C1)
   (B1 (C7 (Sy K PySem.F.plainAttrs_list PySem.F.slot_list_pop PySem.F.type_list_pop Tf (peF K (pv 0)))))),?_⟩
  refine B6 fun N1 hN1=>?_
  refine ex1 rfl ⟨d,T.CDp,dd,_,_,rfl,e,T.clDp,T.nDp_line,rfl,l,_,rfl,.inl (SqL.of hD.at_),⟨rfl,ex1 rfl ?_⟩⟩
  rw [List.length_map,decide_eq_false (show ¬ V.int (li.length:Int) = V.int 1 from fun z=>hn (by have:=V.int.inj z; omega))]
  refine O4 (hN1 _ _ ?_)
  refine ex1 rfl ⟨d,T.CDp,dd,_,_,rfl,e,T.clDp,T.nDp_line,rfl,.inl ⟨rfl,_,SqL.of hD.at_⟩,?_⟩
  have hp:0 < li.length:=List.length_pos_iff.mpr hD.ne
  refine ⟨l,_,_,rfl,rfl,hD.at_,List.getElem?_eq_getElem (by rw [List.length_map]; omega),?_⟩
  rw [<-List.map_dropLast]
  exact k
end
end Sw
namespace Sw
open PySem L2
theorem WebAt.keepD {C D:Addr} {H H':Hp} {x d dd:Addr} {fs:List (Str × V)} {ns:List Str} {qs:List PA2} (h:WebAt C H x ns qs) (ed:H d = some (.ins D dd fs)) (nx:x ≠ d) (k:∀ b o,b ≠ d->H b = some o->H' b = some o):WebAt C H' x ns qs:=by
 obtain ⟨ok,dx,a,b,c,d',kc,kd,e1,e2,e3,e4,e5,e6,e7,e8⟩:=h
 have k':∀ {b:Addr} {o:HO},H b = some o->o ≠ .ins D dd fs->H' b = some o:=fun e n=>k _ _ (M8 e ed n) e
 exact ⟨ok,dx,a,b,c,d',kc,kd,k _ _ nx e1,k' e2 (by intro z; cases z),k' e3 (by intro z; cases z),fun q hq=>k' (e4 q hq) (by intro z; cases z),k' e5 (by intro z; cases z),k' e6 (by intro z; cases z),fun n hn=>let ⟨l,v,e⟩:=e7 n hn; ⟨l,v,k' e (by intro z; cases z)⟩,fun n hn=>let ⟨l,v,e⟩:=e8 n hn; ⟨l,v,k' e (by intro z; cases z)⟩⟩
theorem WebAt.without {C:Addr} {H:Hp} {x z:Addr} {ns:List Str} {qs:List PA2} (h:WebAt C (upd H z (.own z)) x ns qs):WebAt C (er H z) x ns qs:=by
 obtain ⟨ok,dx,a,b,c,d',kc,kd,e1,e2,e3,e4,e5,e6,e7,e8⟩:=h
 have k:∀ {b:Addr} {o:HO},(upd H z (.own z)) b = some o->o ≠ .own z->er H z b = some o:=fun {b o} e n=>by
  have hb:b ≠ z:=fun q=>by
   rw [q,A7] at e
   exact n (Option.some.inj e).symm
  rw [S3 hb]
  rw [B2 hb] at e
  exact e
 exact ⟨ok,dx,a,b,c,d',kc,kd,k e1 (by intro z; cases z),k e2 (by intro z; cases z),k e3 (by intro z; cases z),fun q hq=>k (e4 q hq) (by intro z; cases z),k e5 (by intro z; cases z),k e6 (by intro z; cases z),fun n hn=>let ⟨l,v,e⟩:=e7 n hn; ⟨l,v,k e (by intro z; cases z)⟩,fun n hn=>let ⟨l,v,e⟩:=e8 n hn; ⟨l,v,k e (by intro z; cases z)⟩⟩
section
variable {P:Program} {w:World} {K:PySem.W.Frag} {mg:Str->Option Value} {base:Heap}
theorem K8:FnScope ["self", "web", "name", "kind"] ["self", "web", "name", "kind"] (B5 s_Dp___init__):=⟨rfl,rfl,rfl,by decide +kernel,rfl,by decide +kernel,by decide +kernel⟩
noncomputable def Kh (CD CW:Addr):Sp:=fun vs H Q _=>∃ d dd x0 n kd ns qs,vs = [.ref d,.ref x0,.str n,.str kd]/\H d = some (.ins CD dd [])/\WebAt CW H x0 ns qs/\x0 ≠ d/\n ∈ ns/\(∀ y ∈ ns,M7 y = true) /\
 ∀ x l (qs2:List PA2) H',qs2.Perm qs->qs2.Pairwise leP->Sm [d] H H'->DAt CD CW H' d x l ns qs2 kd [n]->H l = none->(∀ z zs,H z = some (.lst zs)->WebAt CW (er (er H' l) z) x ns qs2)->Q .non H'
set_option maxHeartbeats 1000000 in
theorem Lj (T:Tx K mg):FnOk P w K mg base CX0 5 T.fDp___init__ T.fdDp___init__ ["self", "web", "name", "kind"] (Kh T.CDp T.CWeb):=by
 have G_Web_check_has:FnOk P w K mg base CX0 1 T.mWeb_check_has.f T.mWeb_check_has.fd ["self", "name"] (Q0 T.CWeb):=O1 T
 have G_Web___init__:FnOk P w K mg base CX0 3 T.fWeb___init__ T.fdWeb___init__ ["self", "names", "strikes"] (V0 K T.CWeb):=Ad T
 have G_Web_all_names:FnOk P w K mg base CX0 1 T.mWeb_all_names.f T.mWeb_all_names.fd ["self"] (e9 T.CWeb):=m9 T
 have G_Web_all_strikes:FnOk P w K mg base CX0 1 T.mWeb_all_strikes.f T.mWeb_all_strikes.fd ["self"] (Q1 T.CWeb):=P9 T
 have sc:=K8
 refine T.FDp___init__.ok K8 (fun vs H Q E h=>?_) (fun cdv A outer s H vs Q E hr h=>?_)
 ·obtain ⟨d,dd,x0,n,kd,ns,qs,rfl,_⟩:=h
  rfl
 ·obtain ⟨d,dd,x0,n,kd,ns,qs,rfl,hd,W0,nx0,hn,hN,q⟩:=h
  obtain ⟨ok,dw,a1,b,c,d',kc,kd',e2,_,_,pin,_⟩:=id W0
  refine ⟨_,(B0 (C7 (P0 (pv 1) T.clWeb T.mWeb_check_has.m G_Web_check_has (hr.mono (by decide)) T.mWeb_check_has.b .nil F0 (A6 (pv 2) A9)))
   (B0 (psF K (pv 0) (Cw T.mkWeb G_Web___init__ (hr.mono (by decide)) rfl T.mgWeb T.bWeb___init__ .nil F0 (A6 (C6 (pv 1) T.clWeb T.mWeb_all_names.m G_Web_all_names (hr.mono (by decide)) T.mWeb_all_names.b .nil F0) (A6 (C6 (pv 1) T.clWeb T.mWeb_all_strikes.m G_Web_all_strikes (hr.mono (by decide)) T.mWeb_all_strikes.b .nil F0) A9))))
   (B0 (psF K (pv 0) (pv 3))
   (B1 (psF K (pv 0) (G8 (A6 (pv 2) A9))))))),?_⟩
  refine B6 fun N1 hN1=>?_
  refine ex1 rfl ⟨x0,dw,ex1 rfl ⟨e2,rfl,ex1 rfl ⟨x0,n,ns,qs,rfl,W0,hn,?_⟩⟩⟩
  refine hN1 _ _ (B6 fun N2 hN2=>?_)
  refine ex1 rfl ⟨x0,dw,ex1 rfl ⟨e2,rfl,x0,ns,qs,rfl,W0,fun l1 hl1=>?_⟩⟩
  have u1:=Same.new (o:=.lst (ns.map V.str)) hl1
  have f1:(upd H l1 (.lst (ns.map V.str))) l1 = some (.lst (ns.map V.str)):=A7
  generalize upd H l1 (.lst (ns.map V.str)) = K1 at u1 f1 ⊢
  refine ex1 rfl ⟨x0,dw,ex1 rfl ⟨u1 _ _ e2,rfl,x0,ns,qs,rfl,W0.same u1,fun l2 hl2=>?_⟩⟩
  have u2:=Same.new (o:=.lst (J9 qs)) hl2
  have f2:(upd K1 l2 (.lst (J9 qs))) l2 = some (.lst (J9 qs)):=A7
  have f1:=u2 _ _ f1
  have u12:=u1.trans u2
  generalize upd K1 l2 (.lst (J9 qs)) = K2 at u2 f1 f2 u12 ⊢
  intro y dy ny ndy ney
  have t0:Same K2 (upd (upd K2 dy (.own y)) y (.ins T.CWeb dy [])):=fun b o e=>by
   rw [B2 (A8 e ny),B2 (A8 e ndy)]
   exact e
  have No':S8 ns:=⟨hN,ok.nd,ok.len⟩
  refine ⟨y,dy,l1,ns,l2,qs,rfl,A7,.inl (SqL.of (t0 _ _ f1)),No',t0 _ _ f2,J3 t0 (J3 u12 pin),⟨ok.mem,ok.ndq,ok.lenq⟩,fun ns2 qs2 K3 pn2 srn2 pq2 srq2 k3 W3 C3=>⟨rfl,?_⟩⟩
  have en:ns2 = ns:=Z8 srn2 ok.srt pn2
  subst en
  have t3:Same K2 K3:=fun b o e=>k3 b o (t0 b o e) (by simpa using A8 e ny)
  have s3:=u12.trans t3
  have hd3:=s3 _ _ hd
  have nyd:y ≠ d:=(A8 (u12 _ _ hd) ny).symm
  refine ex1 rfl ⟨d,T.CDp,dd,[],rfl,hd3,T.clDp,T.nDp_web,by decide,?_⟩
  refine hN2 _ _ (B6 fun N3 hN3=>?_)
  refine ex1 rfl (ex1 rfl ⟨d,T.CDp,dd,_,rfl,A7,T.clDp,T.nDp_kind,Nat.le_of_ble_eq_true rfl,?_⟩)
  refine hN3 _ _ ?_
  rw [r8]
  have h5:(upd K3 d (.ins T.CDp dd (R0 "kind" (.str kd) (R0 "web" (.ref y) [])))) d = some (.ins T.CDp dd [("web",.ref y),("kind",.str kd)]):=A7
  have k5:∀ b o,b ≠ d->K3 b = some o->(upd K3 d (.ins T.CDp dd (R0 "kind" (.str kd) (R0 "web" (.ref y) [])))) b = some o:=fun b o hb e=>(B2 hb).trans e
  have W5:=W3.keepD hd3 nyd k5
  have W5z:∀ z zs,H z = some (.lst zs)->z ≠ d/\WebAt T.CWeb (er (upd K3 d (.ins T.CDp dd (R0 "kind" (.str kd) (R0 "web" (.ref y) [])))) z) y ns2 qs2:=fun z zs hz=>by
   have nzd:z ≠ d:=M8 hz hd (by intro q; cases q)
   refine ⟨nzd,((C3 z zs (.own z) (t0 _ _ (u12 _ _ hz))).without).keepD (d:=d) (by rw [S3 nzd.symm]; exact hd3) nyd fun b o hb e=>?_⟩
   have hbz:b ≠ z:=fun q=>by
    rw [q] at e
    unfold er at e
    rw [if_pos rfl] at e
    cases e
   rw [S3 hbz] at e ⊢
   rw [B2 hb]
   exact e
  generalize upd K3 d (.ins T.CDp dd (R0 "kind" (.str kd) (R0 "web" (.ref y) []))) = K5 at h5 k5 W5 W5z ⊢
  refine ex1 rfl ⟨by show 1<=sizeLine; decide,fun l hl=>?_⟩
  have ndl:d ≠ l:=A8 h5 hl
  refine ex1 rfl ⟨d,T.CDp,dd,_,rfl,by rw [B2 ndl]; exact h5,T.clDp,T.nDp_line,Nat.le_of_ble_eq_true rfl,?_⟩
  have fl:H l = none:=by
   cases e:H l with
   | none=>rfl
   | some o =>
    have:=k5 l o ndl.symm (s3 _ _ e)
    rw [hl] at this
    cases this
  refine q y l qs2 _ pq2 srq2 (fun b o e hb=>?_) ⟨⟨dd,A7⟩,by rw [B2 ndl.symm,A7]; rfl,?_,fun z hz=>by rw [List.mem_singleton.mp hz]; exact hn,by simp,by simp⟩ fl fun z zs hz=>?_
  ·have hb':b ≠ d:=by simpa using hb
   rw [B2 hb',B2 (A8 e fl)]
   exact k5 b o hb' (s3 _ _ e)
  ·refine (W5.same (Up hl)).keepD (d:=d) (by rw [S3 ndl]; exact h5) nyd fun b o hb e=>?_
   have hbl:b ≠ l:=fun z=>by
    rw [z] at e
    unfold er at e
    rw [if_pos rfl] at e
    cases e
   rw [S3 hbl] at e ⊢
   rw [B2 hb,B2 hbl]
   exact e
  ·obtain ⟨nzd,Wz⟩:=W5z z zs hz
   refine Wz.keepD (d:=d) (by rw [S3 nzd.symm]; exact h5) nyd fun b o hb e=>?_
   have hbz:b ≠ z:=fun q=>by
    rw [q] at e
    unfold er at e
    rw [if_pos rfl] at e
    cases e
   rw [S3 hbz] at e ⊢
   have hbl:b ≠ l:=A8 e hl
   rw [S3 hbl,B2 hb,B2 hbl]
   exact e
end
end Sw
namespace Sw
open PySem L2
section
variable {P:Program} {w:World} {K:PySem.W.Frag} {mg:Str->Option Value} {base:Heap}
theorem Cg:FnScope ["_law_cell", "_law_k", "_law_m"] ["_law_cell", "_law_k"] (B5 s_law_mix):=⟨rfl,rfl,rfl,by decide +kernel,rfl,by decide +kernel,by decide +kernel⟩
noncomputable def Tj:Sp:=fun vs H Q _=>∃ (cell k:Int),vs = [.int cell,.int k]/\0<=k/\k<=2000000/\∀ m:Int,0<=m->m < 1999999973->Q (.int m) H
theorem Ln (T:Tx K mg):FnOk P w K mg base CX0 1 T.law_mix.f T.law_mix.fd ["_law_cell", "_law_k"] Tj:=by
 have sc:=Cg
 refine T.law_mix.F.ok Cg (fun vs H Q E h=>?_) (fun cdv A outer s H vs Q E hr h=>?_)
 ·obtain ⟨c,k,rfl,_⟩:=h
  rfl
 ·obtain ⟨cell,k,rfl,k0,k1,q⟩:=h
  refine ⟨_,(B0 (C5 (i:=2) sc.nd rfl (by first | exact Or.inl rfl | exact Or.inr rfl) (K0 b9 (K0 Bj (K0 y7 (K0 y7 (K0 b9 (pv 0) B4) (K0 Bj (K0 Bj (pv 1) (pv 1)) B4)) B4) B4) B4))
   (B1 (C0 (K0 b9 (K0 Bj (pv 2) (pv 2)) B4)))),?_⟩
  refine ex1 rfl (B7 rfl rfl ⟨(show (0:Int) < 2147483629 by decide),ex1 rfl (ex1 rfl (B7 rfl rfl ⟨.inl ⟨by omega,by omega⟩,B7 rfl rfl ⟨.inr ⟨by decide,by decide⟩,B7 rfl rfl (B7 rfl rfl (B7 rfl rfl ⟨.inr ⟨by decide,by decide⟩,B7 rfl rfl ⟨(show (0:Int) < 2147483647 by decide),?_⟩⟩))⟩⟩))⟩)
  generalize hm:(cell % 2147483629 + k * k * 7919 + 11) * 48271 % 2147483647 = m
  have h1:0<=m:=by rw [<-hm]; exact Int.emod_nonneg _ (by decide)
  have h2:m < 2147483647:=by rw [<-hm]; exact Int.emod_lt_of_pos _ (by decide)
  exact ⟨_,rfl,_,rfl,_,_,rfl,rfl,.inl ⟨by omega,by omega⟩,_,_,rfl,rfl,(show (0:Int) < 1999999973 by decide),q _ (Int.emod_nonneg _ (by decide)) (Int.emod_lt_of_pos _ (by decide))⟩
noncomputable def LeftAt (H:Hp) (p:Addr) (c:Int):Prop:=∃ a b:Int,H p = some (.lst [.int a,.int b,.int c])/\0<=c
theorem LeftAt.isS {H:Hp} {p:Addr} {c:Int} (h:LeftAt H p c):(H p).isSome = true:=by
 obtain ⟨_,_,e,_⟩:=h
 rw [e]; rfl
theorem LeftAt.get {H:Hp} {p:Addr} {c:Int} (h:LeftAt H p c):H p = some ((H p).get h.isS):=(Option.some_get _).symm
theorem LeftAt.cast {H:Hp} {p:Addr} {c c':Int} (h:LeftAt H p c) (e:c = c'):LeftAt H p c':=e ▸ h
theorem LeftAt.upd {H:Hp} {p a:Addr} {c:Int} {o:HO} (h:LeftAt H p c) (n:p ≠ a):LeftAt (L2.upd H a o) p c:=by
 obtain ⟨x,y,e,z⟩:=h
 exact ⟨x,y,by rw [B2 n]; exact e,z⟩
theorem LeftAt.same {H H':Hp} {p:Addr} {c:Int} (h:LeftAt H p c) (s:Same H H'):LeftAt H' p c:=by
 obtain ⟨x,y,e,z⟩:=h
 exact ⟨x,y,s _ _ e,z⟩
theorem zBu (c:Bool):-(2 ^ 64) < (if c = true then (1:Int) else 0)/\(if c = true then (1:Int) else 0) < 2 ^ 64:=by cases c <;> exact ⟨by decide,by decide⟩
theorem Al:FnScope ["_law_script", "_law_k", "_law_cell"] ["_law_script", "_law_k"] (B5 s_law_left):=⟨rfl,rfl,rfl,by decide +kernel,rfl,by decide +kernel,by decide +kernel⟩
noncomputable def Nm (K:PySem.W.Frag):Sp:=fun vs H Q _=>∃ (p:Addr) (xs:List Int) (k:Nat),vs = [.ref p,.int (k:Int)]/\SqL K H p (xs.map V.int)/\k<=1000/\∀ l H',H l = none->Same H H'->LeftAt H' l 0->Q (.ref l) H'
theorem Ho (T:Tx K mg):FnOk P w K mg base CX0 1 T.law_left.f T.law_left.fd ["_law_script", "_law_k"] (Nm K):=by
 have sc:=Al
 refine T.law_left.F.ok Al (fun vs H Q E h=>?_) (fun cdv A outer s H vs Q E hr h=>?_)
 ·obtain ⟨p,xs,k,rfl,_⟩:=h
  rfl
 ·obtain ⟨p,xs,k,rfl,hS,hk,q⟩:=h
  refine ⟨_,(B0 (C5 (i:=2) sc.nd rfl (by first | exact Or.inl rfl | exact Or.inr rfl) (Ry (B9 zBh (pv 1) (D0 (O7 K) T.b_len O3 (A6 (pv 0) A9)) (C8 _)) (E3 (ixL K) (pv 0) (pv 1) (fun _ _=>rfl)) B4))
   (B1 (C0 (G8 (A6 (K0 Bj (D0 Jh T.b_abs Uc (A6 (pv 2) A9)) (Dw y9 T.b_int Ji (A6 (I9 zAq (D0 Jh T.b_abs Uc (A6 (pv 2) A9)) (K0 Yw B4 B4) (C8 _)) A9))) (A6 (K0 y7 (pv 2) (K0 Bj B4 (pv 1))) (A6 B4 A9))))))),?_⟩
  refine ex1 rfl (ex1 rfl (B7 (a:=p) rfl (.inl hS) (B7 rfl rfl (ex1 rfl ?_))))
  have at1:decide ((k:Int) < ((xs.map V.int).length:Int)) = true->∃ c:Int,atI (xs.map V.int) (k:Int) = some (.int c):=fun c1=>by
   have c1:(k:Int) < ((xs.map V.int).length:Int):=of_decide_eq_true c1
   rw [List.length_map] at c1
   have hk':xs[k]? = some (xs[k]'(by omega)):=List.getElem?_eq_getElem (by omega)
   exact ⟨_,Q8 (by rw [List.getElem?_map,hk']; rfl)⟩
  refine Fz (fun c1=>?_) (fun c1=>?_)
  ·obtain ⟨c,hc⟩:=at1 c1
   refine ex1 rfl (ex1 rfl ⟨p,_,B7 rfl rfl ⟨hS,hc,?_⟩⟩)
   (repeat first | refine ⟨_,rfl,?_⟩ | refine ⟨_,_,rfl,rfl,?_⟩)
   refine ⟨⟨by decide,by decide,by decide⟩,?_⟩
   (repeat first | refine ⟨_,rfl,?_⟩ | refine ⟨_,_,rfl,rfl,?_⟩)
   refine .inr ⟨_,rfl,?_⟩
   (repeat first | refine ⟨_,rfl,?_⟩ | refine ⟨_,_,rfl,rfl,?_⟩)
   refine ⟨.inr ?_,?_⟩
   ·exact zBu _
   (repeat first | refine ⟨_,rfl,?_⟩ | refine ⟨_,_,rfl,rfl,?_⟩)
   refine ⟨.inl ⟨by decide,by decide⟩,?_⟩
   (repeat first | refine ⟨_,rfl,?_⟩ | refine ⟨_,_,rfl,rfl,?_⟩)
   exact ⟨by show 3<=sizeLine; decide,fun l hl=>q l _ hl (Same.new hl) ⟨_,_,A7,by decide⟩⟩
  ·(repeat first | refine ⟨_,rfl,?_⟩ | refine ⟨_,_,rfl,rfl,?_⟩)
   refine ⟨⟨by decide,by decide,by decide⟩,?_⟩
   (repeat first | refine ⟨_,rfl,?_⟩ | refine ⟨_,_,rfl,rfl,?_⟩)
   refine .inr ⟨_,rfl,?_⟩
   (repeat first | refine ⟨_,rfl,?_⟩ | refine ⟨_,_,rfl,rfl,?_⟩)
   refine ⟨.inr ?_,?_⟩
   ·exact zBu _
   (repeat first | refine ⟨_,rfl,?_⟩ | refine ⟨_,_,rfl,rfl,?_⟩)
   refine ⟨.inl ⟨by decide,by decide⟩,?_⟩
   (repeat first | refine ⟨_,rfl,?_⟩ | refine ⟨_,_,rfl,rfl,?_⟩)
   exact ⟨by show 3<=sizeLine; decide,fun l hl=>q l _ hl (Same.new hl) ⟨_,_,A7,by decide⟩⟩
theorem r9:FnScope ["_law_left_here", "_law_many", "_law_digit"] ["_law_left_here", "_law_many"] (B5 s_law_pick):=⟨rfl,rfl,rfl,by decide +kernel,rfl,by decide +kernel,by decide +kernel⟩
noncomputable def b7:Sp:=fun vs H Q _=>∃ (p:Addr) (c many:Int),vs = [.ref p,.int many]/\LeftAt H p c/\c<=1000000/\0 < many/\many<=1000000 /\
 ∀ (d:Nat) H',(d:Int) < many->Sm [p] H H'->LeftAt H' p (c + 1)->Q (.int (d:Int)) H'
theorem P2 (T:Tx K mg):FnOk P w K mg base CX0 2 T.law_pick.f T.law_pick.fd ["_law_left_here", "_law_many"] b7:=by
 have G_law_mix:FnOk P w K mg base CX0 1 T.law_mix.f T.law_mix.fd ["_law_cell", "_law_k"] Tj:=Ln T
 have sc:=r9
 refine T.law_pick.F.ok r9 (fun vs H Q E h=>?_) (fun cdv A outer s H vs Q E hr h=>?_)
 ·obtain ⟨p,c,m,rfl,_⟩:=h
  rfl
 ·obtain ⟨p,c,many,rfl,⟨a,b,e,c0⟩,c1,m0,m1,q⟩:=h
  refine ⟨_,(B0 (Nk (K0 y7 (E3 (ixL K) (pv 0) B4 (fun _ _=>rfl)) B4) (Tz (pv 0) B4 Jj))
   (B0 (I0 (B9 Xf (E3 (ixL K) (pv 0) B4 (fun _ _=>rfl)) B4 (C8 _)) (B0 (C5 (i:=2) sc.nd rfl (by first | exact Or.inl rfl | exact Or.inr rfl) (K0 b9 (E3 (ixL K) (pv 0) B4 (fun _ _=>rfl)) (pv 1)))
   (B0 (Nk (K0 Pg (E3 (ixL K) (pv 0) B4 (fun _ _=>rfl)) (pv 1)) (Tz (pv 0) B4 Jj))
   (B1 (C0 (pv 2))))) C1)
   (B1 (C0 (K0 b9 (K0 Pg (E4 T.law_mix G_law_mix (hr.mono (by decide)) (A6 (E4 T.law_mix G_law_mix (hr.mono (by decide)) (A6 (E3 (ixL K) (pv 0) B4 (fun _ _=>rfl)) (A6 (E3 (ixL K) (pv 0) B4 (fun _ _=>rfl)) A9))) (A6 (K0 y7 (E3 (ixL K) (pv 0) B4 (fun _ _=>rfl)) B4) A9))) B4) (pv 1)))))),?_⟩
  have nn:∀ d:Int,0<=d->d < many->∀ a' b',Q (.int d) (upd (upd H p (.lst [.int a,.int b,.int (c + 1)])) p (.lst [.int a',.int b',.int (c + 1)]))/\Q (.int d) (upd H p (.lst [.int a',.int b',.int (c + 1)])):=fun d h0 h1 a' b'=>by
   obtain ⟨n,rfl⟩:=Int.eq_ofNat_of_zero_le h0
   exact ⟨q n _ h1 (((Sm.refl _ _).upd (by simp)).upd (by simp)) ⟨a',b',A7,by omega⟩,q n _ h1 ((Sm.refl _ _).upd (by simp)) ⟨a',b',A7,by omega⟩⟩
  refine ex1 rfl ⟨p,_,B7 rfl rfl ⟨SqL.of e,rfl,B7 rfl rfl (ex1 rfl ⟨p,_,_,2,rfl,rfl,e,rfl,?_⟩)⟩⟩
  refine ex1 rfl ⟨p,_,B7 rfl rfl ⟨SqL.of A7,rfl,B7 rfl rfl (ex1 rfl ?_)⟩⟩
  refine Fz (fun h1=>?_) (fun h1=>?_)
  ·have h1:(0:Int) < a:=of_decide_eq_true h1
   refine ex1 rfl ⟨p,_,B7 rfl rfl ⟨SqL.of A7,rfl,ex1 rfl (B7 rfl rfl ⟨m0,?_⟩)⟩⟩
   refine ex1 rfl ⟨p,_,B7 rfl rfl ⟨SqL.of A7,rfl,ex1 rfl (B7 rfl rfl ⟨⟨m0,by omega⟩,ex1 rfl ⟨p,_,_,0,rfl,rfl,A7,rfl,?_⟩⟩)⟩⟩
   exact ⟨_,rfl,(nn _ (Int.emod_nonneg _ (by omega)) (Int.emod_lt_of_pos _ m0) _ _).1⟩
  ·refine ex1 rfl ⟨p,_,B7 rfl rfl ⟨SqL.of A7,rfl,ex1 rfl ⟨p,_,B7 rfl rfl ⟨SqL.of A7,rfl,_,ex1 rfl ⟨by omega,by omega,fun m2 h2 h3=>?_⟩⟩⟩⟩⟩
   refine ex1 rfl ⟨p,_,B7 rfl rfl ⟨SqL.of A7,rfl,B7 rfl rfl ⟨_,ex1 rfl ⟨by omega,by omega,fun m3 h4 h5=>?_⟩⟩⟩⟩
   refine B7 rfl rfl ⟨⟨by decide,by decide⟩,ex1 rfl (B7 rfl rfl ⟨m0,?_⟩)⟩
   exact (nn _ (Int.emod_nonneg _ (by omega)) (Int.emod_lt_of_pos _ m0) _ _).2
end
end Sw
namespace Sw
open PySem L2
theorem six {d n:Nat} (h:d < n):seqIndex? (d:Int) n = some d:=by
 unfold seqIndex?
 simp
 omega
theorem erase_perm {α:Type} {l:List α} {i:Nat} {x:α} (h:l[i]? = some x):(x :: l.eraseIdx i).Perm l:=ST.erase_perm h
theorem Fu {α β:Type} (f:α->β):∀ (l:List α) (i:Nat),(l.map f).eraseIdx i = (l.eraseIdx i).map f
 | [],_=>rfl
 | _ :: _,0=>rfl
 | a :: l,i + 1=>by
  show f a :: (l.map f).eraseIdx i = f a :: (l.eraseIdx i).map f
  rw [Fu f l i]
theorem Qr {all rest got:List Str} (pm:(rest ++ got).Perm all) (h1:∀ x ∈ all,M7 x = true) (h2:all.Nodup) (h3:all.length<=100):S8 got:=by
 refine ⟨fun x hx=>h1 x (pm.mem_iff.mp (List.mem_append_right _ hx)),?_,?_⟩
 ·exact (List.nodup_append.mp (pm.nodup_iff.mpr h2)).2.1
 ·have:=pm.length_eq
  rw [List.length_append] at this
  omega
theorem Ri {all rest got:List Str} {d:Nat} {x:Str} (pm:(rest ++ got).Perm all) (h:rest[d]? = some x):(rest.eraseIdx d ++ (got ++ [x])).Perm all:=by
 refine List.Perm.trans ?_ pm
 rw [<-List.append_assoc]
 refine List.perm_append_comm.trans ?_
 rw [<-List.append_assoc]
 exact (erase_perm h).append_right got
theorem Sm1 {p b:Addr} {H H':Hp} {o:HO} (h:Sm [p] H H') (e:H b = some o) (n:b ≠ p):H' b = some o:=h b o e fun z=>n (List.mem_singleton.mp z)
section
variable {P:Program} {w:World} {K:PySem.W.Frag} {mg:Str->Option Value} {base:Heap}
noncomputable def all20:List Str:=["b", "aa", "zebra", "c", "quartzes", "ab", "m", "knows", "d", "mm", "likes", "z", "a", "ba", "abcdefgh", "y", "zz", "e", "x", "f"]
noncomputable abbrev txt20:Str := "b aa zebra c quartzes ab m knows d mm likes z a ba abcdefgh y zz e x f"
theorem We:Builtin.Str.partsBetween txt20 (Builtin.Str.occurrences txt20 " " 0 txt20.length (txt20.length + 1)) (" ":Str).length = all20:=by decide +kernel
theorem all20_ok:(∀ x ∈ all20,M7 x = true)/\all20.Nodup:=⟨by decide +kernel,by decide +kernel⟩
theorem Hv:∃ all:List Str,all.length = 20/\(∀ x ∈ all,M7 x = true)/\all.Nodup/\(∀ x ∈ all,x ≠ "none")/\∀ (Q:VK) (H:Hp),(∀ l,H l = none->Q (.ref l) (upd H l (.lst (all.map V.str))))->Uf (.str txt20) [.str " "] H Q :=
 ⟨all20,rfl,all20_ok.1,all20_ok.2,by decide +kernel,fun Q H h=>⟨txt20, " ",all20,rfl,rfl,by decide +kernel,by decide +kernel,by decide +kernel,by decide +kernel,We,by decide +kernel,h⟩⟩
theorem l8:FnScope ["_law_left_here", "_law_many", "_law_some", "_law_names_here", "_law_k"] ["_law_left_here", "_law_many"] (B5 s_law_names):=⟨rfl,rfl,rfl,by decide +kernel,rfl,by decide +kernel,by decide +kernel⟩
noncomputable def Ke:Sp:=fun vs H Q _=>∃ (p:Addr) (c:Int) (many:Nat),vs = [.ref p,.int (many:Int)]/\LeftAt H p c/\c<=900000/\many<=20 /\
 ∀ l (ss:List Str) H',H l = none->Sm [p] H H'->H' l = some (.lst (ss.map V.str))->ss.length = many->S8 ss->(∀ x ∈ ss,x ≠ "none")->LeftAt H' p (c + many)->Q (.ref l) H'
set_option maxHeartbeats 2000000 in
theorem Ew (T:Tx K mg):FnOk P w K mg base CX0 3 T.law_names.f T.law_names.fd ["_law_left_here", "_law_many"] Ke:=by
 have G_law_pick:FnOk P w K mg base CX0 2 T.law_pick.f T.law_pick.fd ["_law_left_here", "_law_many"] b7:=P2 T
 have sc:=l8
 refine T.law_names.F.ok l8 (fun vs H Q E h=>?_) (fun cdv A outer s H vs Q E hr h=>?_)
 ·obtain ⟨p,c,m,rfl,_⟩:=h
  rfl
 ·obtain ⟨p,c,many,rfl,hL,c1,m1,q⟩:=h
  obtain ⟨a0,b0,e0,c0⟩:=id hL
  refine ⟨_,(B0 (C5 (i:=2) sc.nd rfl (by first | exact Or.inl rfl | exact Or.inr rfl) (Iy K PySem.F.plainAttrs_str PySem.F.slot_str_split PySem.F.type_str_split Rl D9 (A6 D9 A9)))
   (B0 (C5 (i:=3) sc.nd rfl (by first | exact Or.inl rfl | exact Or.inr rfl) (G8 A9))
   (B0 (S9 PassesOwn.never rfl (Zx T.b_range (A6 (pv 1) A9)) (G9 (i:=4) sc.nd rfl (by first | exact Or.inl rfl | exact Or.inr rfl))
   (B1 (C7 (Iy K PySem.F.plainAttrs_list PySem.F.slot_list_append PySem.F.type_list_append E8 (pv 3) (A6 (Iy K PySem.F.plainAttrs_list PySem.F.slot_list_pop PySem.F.type_list_pop Sz (pv 2) (A6 (E4 T.law_pick G_law_pick (hr.mono (by decide)) (A6 (pv 0) (A6 (D0 (O7 K) T.b_len O3 (A6 (pv 2) A9)) A9))) A9)) A9)))))
   (B1 (C0 (pv 3)))))),?_⟩
  obtain ⟨all,al,a1,a2,a3,hspl⟩:=Hv
  refine ⟨rfl,?_⟩
  dsimp only [Ml,tC,Tv]
  refine hspl _ _ fun a ha=>?_
  refine ⟨Nat.zero_le _,fun b hb=>?_⟩
  have hb':H b = none:=(Same.new ha).free hb
  have nab:a ≠ b:=A8 A7 hb
  have npa:p ≠ a:=A8 e0 ha
  have npb:p ≠ b:=A8 e0 hb'
  refine ex1 rfl (ex1 rfl ⟨by omega,by omega,?_⟩)
  rw [Int.toNat_natCast]
  refine Q4 (fun i σ H1=>(∃ v4,σ = [some (.ref p),some (.int (many:Int)),some (.ref a),some (.ref b),v4])/\Sm [p] H H1/\LeftAt H1 p (c + i)/\∃ rest got:List Str,H1 a = some (.lst (rest.map V.str))/\H1 b = some (.lst (got.map V.str))/\(rest ++ got).Perm all/\got.length = i) ?_ ?_ ?_
  ·refine ⟨⟨_,rfl⟩,((Same.new ha).trans (Same.new hb)).sm,((hL.cast (by omega)).upd npa).upd npb,all,[],by rw [B2 nab,A7],by rw [A7]; rfl,by rw [List.append_nil],rfl⟩
  ·rintro i σ H1 hi ⟨⟨v4,rfl⟩,k1,L1,rest,got,ea,eb,pm,hg⟩ D1 hD1 _
   have hlen:rest.length = 20 - i:=by
    have:=pm.length_eq
    rw [List.length_append,hg,al] at this
    omega
   refine ex1 rfl ⟨.inl ⟨rfl,_,SqL.of eb⟩,ex1 rfl ⟨.inl ⟨rfl,_,SqL.of ea⟩,ex1 rfl (ex1 rfl (B7 (a:=a) rfl (.inl (SqL.of ea)) (W6 (a:=p) (b:=c + i) rfl L1 (by omega) ?_ ?_ fun d H2 hd k2 L2=>?_)))⟩⟩
   ·rw [List.length_map]; omega
   ·rw [List.length_map]; omega
   rw [List.length_map] at hd
   have hd':d < rest.length:=by omega
   have hx:rest[d]? = some rest[d]:=List.getElem?_eq_getElem hd'
   have ea2:=Sm1 k2 ea npa.symm
   have eb2:=Sm1 k2 eb npb.symm
   refine ⟨a,_,_,d,.str rest[d],rfl,rfl,ea2,by omega,by omega,six (by rw [List.length_map]; exact hd'),by rw [List.getElem?_map,hx]; rfl,b,B7 rfl rfl ⟨by rw [B2 nab.symm]; exact eb2,?_,?_⟩⟩
   ·rw [List.length_map,sizeLine_eq]; omega
   refine hD1 _ _ ⟨⟨_,rfl⟩,?_,?_,rest.eraseIdx d,got ++ [rest[d]],?_,?_,Ri pm hx,by rw [List.length_append,hg]; rfl⟩
   ·exact ((k1.trans k2).updN ha).updN hb'
   ·exact ((L2.cast (by omega)).upd npa).upd npb
   ·rw [B2 nab,A7,Fu]
   ·rw [A7,List.map_append]; rfl
  ·rintro σ H1 ⟨⟨v4,rfl⟩,k1,L1,rest,got,ea,eb,pm,hg⟩
   exact ⟨_,rfl,q b got H1 hb' k1 eb hg (Qr pm a1 a2 (by omega)) (fun x hx=>a3 x (pm.mem_iff.mp (List.mem_append_right _ hx))) L1⟩
end
end Sw
namespace Sw
open PySem L2
noncomputable def pd (k:Str × Str):PyData:=.tuple [.str k.1,.str k.2]
theorem K9 {x:Str} (h:M7 x = true):PySem.PyData.strOk x = true:=by
 unfold M7 at h
 rw [Bool.and_eq_true] at h
 unfold PySem.PyData.strOk
 rw [<-Array.all_toList,List.all_eq_true]
 intro c hc
 have:=(List.all_eq_true.mp h.2) c hc
 unfold Wi at this
 rw [Bool.and_eq_true] at this
 have:=of_decide_eq_true this.2
 exact decide_eq_true (by omega)
theorem Hh {K:PySem.W.Frag} {H:Hp} {t:Addr} {k:Str × Str} (h:H t = some (.tup [.str k.1,.str k.2])):Rp K H (pd k) (.ref t):=by
 unfold pd
 simp only [Rp,Rps]
 exact ⟨t,_,rfl,SqT.of h,_,_,rfl,rfl,_,_,rfl,rfl,rfl⟩
theorem Go {K:PySem.W.Frag} {H:Hp}:∀ {ps:List PA2},(∀ q ∈ ps,E6 H q)->Rps K H (ps.map fun q=>pd q.2) (J9 ps)
 | [],_=>by simp [Rps,J9]
 | q :: r,h=>by
  show Rps K H (pd q.2 :: r.map fun q=>pd q.2) (V.ref q.1 :: J9 r)
  simp only [Rps]
  exact ⟨_,_,rfl,Hh (h q (List.mem_cons_self ..)),Go fun z hz=>h z (List.mem_cons_of_mem _ hz)⟩
theorem Jb {K:PySem.W.Frag} {H:Hp} {l:Addr} {ps:List PA2} (hl:H l = some (.lst (J9 ps))) (h:∀ q ∈ ps,E6 H q):Rp K H (.list (ps.map fun q=>pd q.2)) (.ref l):=by
 simp only [Rp]
 exact ⟨l,_,rfl,SqL.of hl,Go h⟩
theorem Xs (a b:Str × Str):PyData.eqv (pd a) (pd b) = decide (a = b):=by
 unfold pd
 rw [PyData.eqv,PyData.eqvAll,PyData.eqvAll,PyData.eqvAll,PyData.eqv,PyData.eqv]
 by_cases h1:a.1 = b.1
 ·by_cases h2:a.2 = b.2
  ·rw [decide_eq_true (Prod.ext h1 h2),h1,h2]; simp
  ·rw [decide_eq_false fun z=>h2 (congrArg Prod.snd z)]; simp [h2]
 ·rw [decide_eq_false fun z=>h1 (congrArg Prod.fst z)]; simp [h1]
theorem u8 (k:Str × Str):∀ ps:List PA2,((ps.map fun q=>pd q.2).any fun z=>PyData.eqv z (pd k)) = decide (k ∈ ps.map fun q=>q.2)
 | []=>rfl
 | q :: r=>by
  rw [List.map_cons,List.any_cons,u8 k r,Xs,List.map_cons]
  by_cases e:q.2 = k
  ·rw [decide_eq_true e,Bool.true_or,decide_eq_true (show k ∈ q.2 :: _ from by rw [<-e]; exact List.mem_cons_self ..)]
  ·rw [decide_eq_false e,Bool.false_or]
   by_cases h:k ∈ r.map fun q=>q.2
   ·rw [decide_eq_true h,decide_eq_true (List.mem_cons_of_mem _ h)]
   ·rw [decide_eq_false h,decide_eq_false fun z=>(List.mem_cons.mp z).elim (fun z=>e z.symm) h]
theorem Mh {k:Str × Str} (h1:PySem.PyData.strOk k.1 = true) (h2:PySem.PyData.strOk k.2 = true):(pd k).canLay0 = true:=by
 unfold pd
 simp [PyData.canLay0,PyData.canLayAll0,h1,h2]
theorem Hn:∀ {ps:List PA2},(∀ q ∈ ps,PySem.PyData.strOk q.2.1 = true/\PySem.PyData.strOk q.2.2 = true)->PyData.canLayAll0 (ps.map fun q=>pd q.2) = true
 | [],_=>rfl
 | q :: r,h=>by
  rw [List.map_cons,PyData.canLayAll0,Mh (h q (List.mem_cons_self ..)).1 (h q (List.mem_cons_self ..)).2,Hn fun z hz=>h z (List.mem_cons_of_mem _ hz)]
  rfl
theorem a8 {K:PySem.W.Frag} {H:Hp} {t l:Addr} {k:Str × Str} {ps:List PA2} {Q:VK} (ht:H t = some (.tup [.str k.1,.str k.2])) (hl:H l = some (.lst (J9 ps))) (hp:∀ q ∈ ps,E6 H q)
  (hk:PySem.PyData.strOk k.1 = true/\PySem.PyData.strOk k.2 = true) (hs:∀ q ∈ ps,PySem.PyData.strOk q.2.1 = true/\PySem.PyData.strOk q.2.2 = true) (q:Q (.bl (!decide (k ∈ ps.map fun q=>q.2))) H):Wm K true (.ref t) (.ref l) H Q :=
 ⟨pd k,_,Hh ht,.inl (Jb hl hp),⟨Mh hk.1 hk.2,by simp [pd,PyData.depth,PyData.depthAll]⟩,Hn hs,by rw [if_pos rfl,u8]; exact q⟩
structure FL (H:Hp) (l:Addr) (ps:List PA2) (ss:List Str):Prop where
 at_:H l = some (.lst (J9 ps))
 pin:∀ q ∈ ps,E6 H q
 nm:∀ q ∈ ps,q.2.1 ∈ ss/\q.2.2 ∈ ss
 nd:(ps.map fun q=>q.2).Nodup
theorem FL.sm {H H':Hp} {p l:Addr} {c:Int} {ps:List PA2} {ss:List Str} (h:FL H l ps ss) (L:LeftAt H p c) (n:l ≠ p) (s:Sm [p] H H'):FL H' l ps ss:=by
 obtain ⟨x,y,e,_⟩:=L
 exact ⟨Sm1 s h.at_ n,fun q hq=>Sm1 s (h.pin q hq) (M8 (h.pin q hq) e (by intro z; cases z)),h.nm,h.nd⟩
theorem FL.new {H:Hp} {l t:Addr} {o:HO} {ps:List PA2} {ss:List Str} (h:FL H l ps ss) (n:H t = none):FL (upd H t o) l ps ss :=
 ⟨by rw [B2 (A8 h.at_ n)]; exact h.at_,fun q hq=>by unfold E6; rw [B2 (A8 (h.pin q hq) n)]; exact h.pin q hq,h.nm,h.nd⟩
theorem FL.put {H:Hp} {l t:Addr} {ps:List PA2} {ss:List Str} {x y:Str} (h:FL H l ps ss) (k:Nat) (ht:H t = some (.tup [.str x,.str y])) (hx:x ∈ ss) (hy:y ∈ ss) (hn:(x,y) ∉ ps.map fun q=>q.2) :
  FL (upd H l (.lst ((J9 ps).take k ++ V.ref t :: (J9 ps).drop k))) l (ps.take k ++ (t,x,y) :: ps.drop k) ss:=by
 have pm:(ps.take k ++ (t,x,y) :: ps.drop k).Perm ((t,x,y) :: ps):=by
  refine List.perm_middle.trans (List.Perm.cons _ ?_)
  rw [List.take_append_drop]
 have mm:∀ q ∈ ps.take k ++ (t,x,y) :: ps.drop k,q = (t,x,y)\/q ∈ ps:=fun q hq=>List.mem_cons.mp (pm.mem_iff.mp hq)
 refine ⟨?_,fun q hq=>?_,fun q hq=>?_,?_⟩
 ·rw [A7]
  unfold J9
  rw [List.map_append,List.map_take,List.map_cons,List.map_drop]
 ·unfold E6
  rcases mm q hq with rfl | z
  ·rw [B2 (M8 ht h.at_ (by intro z; cases z))]; exact ht
  ·rw [B2 (M8 (h.pin q z) h.at_ (by intro z; cases z))]; exact h.pin q z
 ·rcases mm q hq with rfl | z
  ·exact ⟨hx,hy⟩
  ·exact h.nm q z
 ·rw [(pm.map _).nodup_iff]
  show ((x,y) :: ps.map fun q=>q.2).Nodup
  exact List.nodup_cons.mpr ⟨hn,h.nd⟩
theorem FL.app {H:Hp} {l t:Addr} {ps:List PA2} {ss:List Str} {x y:Str} (h:FL H l ps ss) (ht:H t = some (.tup [.str x,.str y])) (hx:x ∈ ss) (hy:y ∈ ss) (hn:(x,y) ∉ ps.map fun q=>q.2) :
  FL (upd H l (.lst (J9 ps ++ [V.ref t]))) l (ps ++ [(t,x,y)]) ss:=by
 have:=h.put ps.length ht hx hy hn
 have e:(J9 ps).length = ps.length:=by unfold J9; rw [List.length_map]
 rw [<-e,List.take_length,List.drop_length,e,List.take_length,List.drop_length] at this
 exact this
theorem Iz (ss:List Str):∀ tt:List Str,(tt.flatMap fun a=>ss.map fun b=>(a,b)).length = tt.length * ss.length
 | []=>by simp
 | a :: r=>by rw [List.flatMap_cons,List.length_append,List.length_map,Iz ss r,List.length_cons,Nat.succ_mul]; omega
theorem FL.len {H:Hp} {l:Addr} {ps:List PA2} {ss:List Str} (h:FL H l ps ss):ps.length<=ss.length * ss.length:=by
 have:=h.nd.length_le_of_subset (l₂:=ss.flatMap fun a=>ss.map fun b=>(a,b)) (fun k hk=>by
  obtain ⟨q,hq,rfl⟩:=List.mem_map.mp hk
  obtain ⟨h1,h2⟩:=h.nm q hq
  exact List.mem_flatMap.mpr ⟨q.2.1,h1,List.mem_map.mpr ⟨q.2.2,h2,rfl⟩⟩)
 rw [Iz,List.length_map] at this
 exact this
end Sw
namespace Sw
open PySem L2
section
variable {P:Program} {w:World} {K:PySem.W.Frag} {mg:Str->Option Value} {base:Heap}
theorem Vg (d1 d2 d:Nat) (h1:d1 < 3) (h2:d2 < 4) (h:d < 8):∃ n:Nat,n<=10/\atI [V.int (8 + (d1:Int)),V.int d2,V.int 4,V.int 5,V.int 6,V.int 7,V.int 5,V.int 6] (d:Int) = some (.int (n:Int)):=by
 suffices ∃ n:Nat,n<=10/\[V.int (8 + (d1:Int)),V.int d2,V.int 4,V.int 5,V.int 6,V.int 7,V.int 5,V.int 6][d]? = some (.int (n:Int)) by
  obtain ⟨n,h,e⟩:=this
  exact ⟨n,h,Q8 e⟩
 match d,h with
 | 0,_=>exact ⟨8 + d1,by omega,by show some (V.int _) = _; rw [Int.natCast_add]; rfl⟩
 | 1,_=>exact ⟨d2,by omega,rfl⟩
 | 2,_=>exact ⟨4,by omega,rfl⟩
 | 3,_=>exact ⟨5,by omega,rfl⟩
 | 4,_=>exact ⟨6,by omega,rfl⟩
 | 5,_=>exact ⟨7,by omega,rfl⟩
 | 6,_=>exact ⟨5,by omega,rfl⟩
 | 7,_=>exact ⟨6,by omega,rfl⟩
theorem Ag:FnScope ["_law_left_here", "_law_way"] ["_law_left_here"] (B5 s_law_size):=⟨rfl,rfl,rfl,by decide +kernel,rfl,by decide +kernel,by decide +kernel⟩
noncomputable def Ni:Sp:=fun vs H Q _=>∃ (p:Addr) (c:Int),vs = [.ref p]/\LeftAt H p c/\c<=900000 /\
 ∀ (n:Nat) H',n<=10->Sm [p] H H'->LeftAt H' p (c + 3)->Q (.int (n:Int)) H'
theorem Ie (T:Tx K mg):FnOk P w K mg base CX0 3 T.law_size.f T.law_size.fd ["_law_left_here"] Ni:=by
 have G_law_pick:FnOk P w K mg base CX0 2 T.law_pick.f T.law_pick.fd ["_law_left_here", "_law_many"] b7:=P2 T
 have sc:=Ag
 refine T.law_size.F.ok Ag (fun vs H Q E h=>?_) (fun cdv A outer s H vs Q E hr h=>?_)
 ·obtain ⟨p,c,rfl,_⟩:=h
  rfl
 ·obtain ⟨p,c,rfl,hL,c1,q⟩:=h
  refine ⟨_,(B0 (C5 (i:=1) sc.nd rfl (by first | exact Or.inl rfl | exact Or.inr rfl) (E4 T.law_pick G_law_pick (hr.mono (by decide)) (A6 (pv 0) (A6 B4 A9))))
   (@B1 _ _ _ (@C0 _ _ _ _ (@E3 _ _ _ _ _ _ _ (ixL K) (@G8 _ _ _ _ (@A6 _ _ _ _ _ (K0 y7 B4 (E4 T.law_pick G_law_pick (hr.mono (by decide)) (A6 (pv 0) (A6 B4 A9)))) (@A6 _ _ _ _ _ (E4 T.law_pick G_law_pick (hr.mono (by decide)) (A6 (pv 0) (A6 B4 A9))) (@A6 _ _ _ _ _ B4 (@A6 _ _ _ _ _ B4 (@A6 _ _ _ _ _ B4 (@A6 _ _ _ _ _ B4 (@A6 _ _ _ _ _ B4 (@A6 _ _ _ _ _ B4 A9 (by rfl)) (by rfl)) (by rfl)) (by rfl)) (by rfl)) (by rfl)) (by rfl)) (by rfl))) (pv 1) (fun _ _=>rfl))))),?_⟩
  refine ex1 rfl (W6 (a:=p) rfl hL (by omega) (by decide) (by decide) fun d H1 hd k1 L1=>?_)
  refine ex1 rfl (W6 (a:=p) rfl L1 (by omega) (by decide) (by decide) fun d1 H2 hd1 k2 L2=>?_)
  refine B7 rfl rfl ?_
  refine ex1 rfl (W6 (a:=p) rfl L2 (by omega) (by decide) (by decide) fun d2 H3 hd2 k3 L3=>?_)
  refine ⟨by show 8<=sizeLine; decide,fun l hl=>?_⟩
  obtain ⟨n,hn,e⟩:=Vg d1 d2 d (by omega) (by omega) (by omega)
  have e3:=L3.get
  refine ex1 rfl ⟨l,_,B7 rfl rfl ⟨SqL.of A7,e,?_⟩⟩
  exact q n _ hn (((k1.trans k2).trans k3).new hl) ((L3.cast (by omega)).upd (A8 e3 hl))
end
end Sw
namespace Sw
open PySem L2
section
variable {P:Program} {w:World} {K:PySem.W.Frag} {mg:Str->Option Value} {base:Heap}
theorem LeftAt.ne {H:Hp} {p n:Addr} {c:Int} {ss:List Str} (h:LeftAt H p c) (hn:H n = some (.lst (ss.map V.str))):n ≠ p:=by
 rintro rfl
 obtain ⟨a,b,e,_⟩:=h
 rw [hn] at e
 cases ss with
 | nil=>cases e
 | cons x r=>cases e
theorem LeftAt.neP {H:Hp} {p n:Addr} {c:Int} {ss:List PA2} (h:LeftAt H p c) (hn:H n = some (.lst (J9 ss))):n ≠ p:=by
 rintro rfl
 obtain ⟨a,b,e,_⟩:=h
 rw [hn] at e
 cases ss with
 | nil=>cases e
 | cons x r=>cases e
theorem Sq (d:Nat) (h:d < 4):∃ n:Nat,0 < n/\n<=9/\atI [V.int 4,V.int 6,V.int 9,V.int 3] (d:Int) = some (.int (n:Int)):=by
 suffices ∃ n:Nat,0 < n/\n<=9/\[V.int 4,V.int 6,V.int 9,V.int 3][d]? = some (.int (n:Int)) by
  obtain ⟨n,h1,h2,e⟩:=this
  exact ⟨n,h1,h2,Q8 e⟩
 match d,h with
 | 0,_=>exact ⟨4,by omega,by omega,rfl⟩
 | 1,_=>exact ⟨6,by omega,by omega,rfl⟩
 | 2,_=>exact ⟨9,by omega,by omega,rfl⟩
 | 3,_=>exact ⟨3,by omega,by omega,rfl⟩
theorem U0:FnScope ["_law_left_here", "_law_names_here", "_law_found", "_law_often", "_law_one", "_law_other"] ["_law_left_here", "_law_names_here"] (B5 s_law_strikes):=⟨rfl,rfl,rfl,by decide +kernel,rfl,by decide +kernel,by decide +kernel⟩
noncomputable def Cd (K:PySem.W.Frag):Sp:=fun vs H Q _=>∃ (p n:Addr) (c:Int) (ss:List Str),vs = [.ref p,.ref n]/\LeftAt H p c/\c<=900000/\H n = some (.lst (ss.map V.str))/\S8 ss/\ss.length<=10 /\
 ∀ l (ps:List PA2) c' H',H l = none->Sm [p] H H'->H' l = some (.lst (J9 ps))->(∀ q ∈ ps,E6 H' q)->StrkOk ss ps->c'<=c + 1000->LeftAt H' p c'->Q (.ref l) H'
noncomputable def SI (H:Hp) (p f:Addr) (ss:List Str) (b:Int) (H1:Hp):Prop:=Sm [p] H H1/\(∃ c',c'<=b/\LeftAt H1 p c')/\∃ ps,FL H1 f ps ss
set_option maxHeartbeats 4000000 in
theorem Az (T:Tx K mg):FnOk P w K mg base CX0 3 T.law_strikes.f T.law_strikes.fd ["_law_left_here", "_law_names_here"] (Cd K):=by
 have G_law_pick:FnOk P w K mg base CX0 2 T.law_pick.f T.law_pick.fd ["_law_left_here", "_law_many"] b7:=P2 T
 have sc:=U0
 refine T.law_strikes.F.ok U0 (fun vs H Q E h=>?_) (fun cdv A outer s H vs Q E hr h=>?_)
 ·obtain ⟨p,n,c,ss,rfl,_⟩:=h
  rfl
 ·obtain ⟨p,n,c,ss,rfl,hL,c1,hn,hN,hlen,q⟩:=h
  obtain ⟨a0,b0,e0,c0⟩:=id hL
  refine ⟨_,(B0 (C5 (i:=2) sc.nd rfl (by first | exact Or.inl rfl | exact Or.inr rfl) (G8 A9))
   (B0 (C5 (i:=3) sc.nd rfl (by first | exact Or.inl rfl | exact Or.inr rfl) (E3 (ixL K) (G8 (A6 B4 (A6 B4 (A6 B4 (A6 B4 A9))))) (E4 T.law_pick G_law_pick (hr.mono (by decide)) (A6 (pv 0) (A6 B4 A9))) (fun _ _=>rfl)))
   (B0 (S9 PassesOwn.never rfl (piL K (pv 1)) (G9 (i:=4) sc.nd rfl (by first | exact Or.inl rfl | exact Or.inr rfl))
   (B0 (S9 PassesOwn.never rfl (piL K (pv 1)) (G9 (i:=5) sc.nd rfl (by first | exact Or.inl rfl | exact Or.inr rfl))
   (B1 (I0 (PW.pt (X0 (B9 Ld (pv 4) (pv 5) (C8 _)) (X0 (B9 Q7 (E4 T.law_pick G_law_pick (hr.mono (by decide)) (A6 (pv 0) (A6 (pv 3) A9))) B4 (C8 _)) (V3 (B9 (Dy K hr.units) (T0 (A6 (pv 4) (A6 (pv 5) A9))) (pv 2) rfl))))) (B0 (C7 (Iy K PySem.F.plainAttrs_list PySem.F.slot_list_insert PySem.F.type_list_insert Mx (pv 2) (A6 (E4 T.law_pick G_law_pick (hr.mono (by decide)) (A6 (pv 0) (A6 (K0 y7 (D0 (O7 K) T.b_len O3 (A6 (pv 2) A9)) B4) A9))) (A6 (T0 (A6 (pv 4) (A6 (pv 5) A9))) A9))))
   (B1 (I0 (PW.pt (X0 (B9 Q7 (E4 T.law_pick G_law_pick (hr.mono (by decide)) (A6 (pv 0) (A6 B4 A9))) B4 (C8 _)) (V3 (B9 (Dy K hr.units) (T0 (A6 (pv 5) (A6 (pv 4) A9))) (pv 2) rfl)))) (B1 (C7 (Iy K PySem.F.plainAttrs_list PySem.F.slot_list_append PySem.F.type_list_append E8 (pv 2) (A6 (T0 (A6 (pv 5) (A6 (pv 4) A9))) A9)))) C1))) C1)))
   (B1 (I0 (PW.pt (X0 (B9 Q7 (E4 T.law_pick G_law_pick (hr.mono (by decide)) (A6 (pv 0) (A6 B4 A9))) B4 (C8 _)) (V3 (B9 (Dy K hr.units) (T0 (A6 (pv 4) (A6 (pv 4) A9))) (pv 2) rfl)))) (B1 (C7 (Iy K PySem.F.plainAttrs_list PySem.F.slot_list_append PySem.F.type_list_append E8 (pv 2) (A6 (T0 (A6 (pv 4) (A6 (pv 4) A9))) A9)))) C1))))
   (B1 (C0 (pv 2)))))),?_⟩
  refine ⟨Nat.zero_le _,fun f hf=>?_⟩
  have npf:p ≠ f:=A8 e0 hf
  have nnf:n ≠ f:=A8 hn hf
  have nnp:n ≠ p:=hL.ne hn
  have nnD:n ∉ [p]:=by simpa using nnp
  have nm:∀ x ∈ ss,PySem.PyData.strOk x = true:=fun x hx=>K9 (hN.1 x hx)
  refine ⟨by show 4<=sizeLine; decide,fun t ht=>?_⟩
  have s1:Same H (upd (upd H f (.lst [])) t (.lst [.int 4,.int 6,.int 9,.int 3])):=(Same.new hf).trans (Same.new ht)
  have ef:(upd (upd H f (.lst [])) t (.lst [.int 4,.int 6,.int 9,.int 3])) f = some (.lst []):=by rw [B2 (A8 A7 ht),A7]
  refine ex1 rfl (W6 (a:=p) (b:=c) rfl (hL.same s1) (by omega) (by decide) (by decide) fun d H1 hd k1 L1=>?_)
  obtain ⟨often,o1,o2,eo⟩:=Sq d (by omega)
  have hpt:p ≠ t:=A8 ((Same.new hf) _ _ e0) ht
  refine ⟨t,_,B7 rfl rfl ⟨SqL.of (Sm1 k1 A7 hpt.symm),eo,?_⟩⟩
  have i0:SI H p f ss (c + 1) H1:=⟨s1.sm.trans k1,⟨_,Int.le_refl _,L1⟩,[],Sm1 k1 ef npf.symm,by simp,by simp,by simp⟩
  have hseq:∀ {H1 b},SI H p f ss b H1->SqL K H1 n (ss.map V.str):=fun h=>(h.1.at nnD).seqL (SqL.of hn)
  refine ex1 rfl ⟨n,rfl,⟨_,hseq i0⟩,?_⟩
  refine Ed (asL (K:=K) (SqL.of hn)) (fun i σ H1=>(∃ v4 v5,σ = [some (.ref p),some (.ref n),some (.ref f),some (.int (often:Int)),v4,v5])/\SI H p f ss (c + 1 + 31 * i) H1) ?_ ?_ ?_ ?_
  ·exact ⟨⟨_,_,rfl⟩,by simpa using i0⟩
  ·rintro i σ H1 hi ⟨_,h1⟩
   exact h1.1.at nnD
  ·rintro i σ H1 x hx ⟨⟨v4,v5,rfl⟩,h1⟩ D1 hD1 _
   rw [List.getElem?_map] at hx
   obtain ⟨one,ho,rfl⟩:∃ y,ss[i]? = some y/\V.str y = x:=by
    cases e:ss[i]? with
    | none=>rw [e] at hx; cases hx
    | some y=>rw [e] at hx; exact ⟨y,rfl,by injection hx⟩
   have hone:one ∈ ss:=List.mem_of_getElem? ho
   have hi:i < ss.length:=(List.getElem?_eq_some_iff.mp ho).1
   refine ex1 rfl ⟨n,rfl,⟨_,hseq h1⟩,?_⟩
   refine Ed (asL (K:=K) (SqL.of hn)) (fun j σ H1=>(∃ v5,σ = [some (.ref p),some (.ref n),some (.ref f),some (.int (often:Int)),some (.str one),v5])/\SI H p f ss (c + 1 + 31 * i + 3 * j) H1) ?_ ?_ ?_ ?_
   ·exact ⟨⟨_,rfl⟩,by simpa using h1⟩
   ·rintro i σ H1 hi ⟨_,h1⟩
    exact h1.1.at nnD
   ·rintro j σ H1 x hx ⟨⟨v5,rfl⟩,h1⟩ D2 hD2 _
    rw [List.getElem?_map] at hx
    obtain ⟨oth,ho,rfl⟩:∃ y,ss[j]? = some y/\V.str y = x:=by
     cases e:ss[j]? with
     | none=>rw [e] at hx; cases hx
     | some y=>rw [e] at hx; exact ⟨y,rfl,by injection hx⟩
    have hoth:oth ∈ ss:=List.mem_of_getElem? ho
    have hj:j < ss.length:=(List.getElem?_eq_some_iff.mp ho).1
    obtain ⟨k1,⟨c',hc',L1⟩,ps,F1⟩:=h1
    have done:∀ {H2 c2 ps2},Sm [p] H H2->c2<=c' + 3->LeftAt H2 p c2->FL H2 f ps2 ss->SI H p f ss (c + 1 + 31 * i + 3 * ((j + 1:Nat):Int)) H2:=fun {H2 c2 ps2} a b d e=>⟨a,⟨c2,by omega,d⟩,ps2,e⟩
    refine ex1 rfl (ex1 rfl ⟨rfl,ex1 rfl ?_⟩)
    refine Fz (fun h1=>?_) (fun h1=>O4 (hD2 _ _ ⟨⟨_,rfl⟩,done k1 (by omega) L1 F1⟩))
    refine ex1 rfl (ex1 rfl (W6 (a:=p) (b:=c') rfl L1 (by omega) (by omega) (by omega) fun d1 H2 hd1 k2 L2=>⟨rfl,_,rfl,?_⟩))
    have F2:=F1.sm L1 npf.symm k2
    refine Fz (fun h2=>?_) (fun h2=>O4 (hD2 _ _ ⟨⟨_,rfl⟩,done (k1.trans k2) (by omega) L2 F2⟩))
    refine ex1 rfl (ex1 rfl ⟨by show 2<=sizeLine; decide,fun t2 ht2=>?_⟩)
    have F3:=F2.new (o:=.tup [.str one,.str oth]) ht2
    have e2:=L2.get
    have L3:=L2.upd (o:=.tup [.str one,.str oth]) (A8 e2 ht2)
    have k3:=(k1.trans k2).new (o:=.tup [.str one,.str oth]) ht2
    refine ex1 rfl (a8 (k:=(one,oth)) A7 F3.at_ F3.pin ⟨nm _ hone,nm _ hoth⟩ (fun q hq=>⟨nm _ (F3.nm q hq).1,nm _ (F3.nm q hq).2⟩) ⟨_,rfl,?_⟩)
    refine Fz (fun h3=>?_) (fun h3=>hD2 _ _ ⟨⟨_,rfl⟩,done k3 (by omega) L3 F3⟩)
    have h3':(one,oth) ∉ ps.map fun q=>q.2:=by simpa using h3
    have lps:=F3.len
    have lps':ps.length<=100:=Nat.le_trans lps (Nat.mul_le_mul hlen hlen)
    have rl:(J9 ps).length = ps.length:=by unfold J9; rw [List.length_map]
    refine ex1 rfl ⟨.inl ⟨rfl,_,SqL.of F3.at_⟩,ex1 rfl (ex1 rfl (B7 (a:=f) rfl (.inl (SqL.of F3.at_)) (B7 rfl rfl (W6 (a:=p) (b:=c' + 1) rfl L3 (by omega) (by omega) (by omega) fun d2 H4 hd2 k4 L4=>?_))))⟩
    have F4:=F3.sm L3 npf.symm k4
    refine ex1 rfl (ex1 rfl ⟨by show 2<=sizeLine; decide,fun t3 ht3=>?_⟩)
    have F5:=F4.new (o:=.tup [.str one,.str oth]) ht3
    have e4:=L4.get
    have L5:=L4.upd (o:=.tup [.str one,.str oth]) (A8 e4 ht3)
    have k5:=(k3.trans k4).new (o:=.tup [.str one,.str oth]) ht3
    refine ⟨f,_,_,d2,ex1 rfl ⟨rfl,rfl,F5.at_,by omega,by rw [sizeLine_eq]; omega,?_⟩⟩
    have F6:=F5.put d2 A7 hone hoth h3'
    have L6:=L5.upd (o:=.lst ((J9 ps).take d2 ++ V.ref t3 :: (J9 ps).drop d2)) npf
    have k6:=k5.updN (o:=.lst ((J9 ps).take d2 ++ V.ref t3 :: (J9 ps).drop d2)) hf
    generalize hps:ps.take d2 ++ (t3,one,oth) :: ps.drop d2 = ps' at F6
    refine ex1 rfl (W6 (a:=p) rfl L6 (by omega) (by decide) (by decide) fun d3 H7 hd3 k7 L7=>⟨rfl,_,rfl,?_⟩)
    have F7:=F6.sm L6 npf.symm k7
    refine Fz (fun h4=>?_) (fun h4=>O4 (hD2 _ _ ⟨⟨_,rfl⟩,done (k6.trans k7) (by omega) L7 F7⟩))
    refine ex1 rfl (ex1 rfl ⟨by show 2<=sizeLine; decide,fun t4 ht4=>?_⟩)
    have F8:=F7.new (o:=.tup [.str oth,.str one]) ht4
    have e7:=L7.get
    have L8:=L7.upd (o:=.tup [.str oth,.str one]) (A8 e7 ht4)
    have k8:=(k6.trans k7).new (o:=.tup [.str oth,.str one]) ht4
    refine ex1 rfl (a8 (k:=(oth,one)) A7 F8.at_ F8.pin ⟨nm _ hoth,nm _ hone⟩ (fun q hq=>⟨nm _ (F8.nm q hq).1,nm _ (F8.nm q hq).2⟩) ⟨_,rfl,?_⟩)
    refine Fz (fun h5=>?_) (fun h5=>hD2 _ _ ⟨⟨_,rfl⟩,done k8 (by omega) L8 F8⟩)
    have h5':(oth,one) ∉ ps'.map fun q=>q.2:=by simpa using h5
    have lps:=F8.len
    have lps':ps'.length<=100:=Nat.le_trans lps (Nat.mul_le_mul hlen hlen)
    have rl:(J9 ps').length = ps'.length:=by unfold J9; rw [List.length_map]
    refine ex1 rfl ⟨.inl ⟨rfl,_,SqL.of F8.at_⟩,ex1 rfl (ex1 rfl ⟨by show 2<=sizeLine; decide,fun t5 ht5=>?_⟩)⟩
    have F9:=F8.new (o:=.tup [.str oth,.str one]) ht5
    have e8:=L8.get
    have L9:=L8.upd (o:=.tup [.str oth,.str one]) (A8 e8 ht5)
    have k9:=k8.new (o:=.tup [.str oth,.str one]) ht5
    refine ⟨f,B7 rfl rfl ⟨F9.at_,by rw [sizeLine_eq]; omega,hD2 _ _ ⟨⟨_,rfl⟩,done (k9.updN hf) (by omega) (L9.upd npf) (F9.app A7 hoth hone h5')⟩⟩⟩
   ·rintro σ H1 ⟨⟨v5,rfl⟩,k1,⟨c',hc',L1⟩,ps,F1⟩
    simp only [List.length_map] at hc'
    have done:∀ {H2 c2 ps2},Sm [p] H H2->c2<=c' + 1->LeftAt H2 p c2->FL H2 f ps2 ss->SI H p f ss (c + 1 + 31 * ((i + 1:Nat):Int)) H2:=fun {H2 c2 ps2} a b d e=>⟨a,⟨c2,by omega,d⟩,ps2,e⟩
    refine ex1 rfl (W6 (a:=p) (b:=c') rfl L1 (by omega) (by decide) (by decide) fun d3 H7 hd3 k7 L7=>⟨rfl,_,rfl,?_⟩)
    have F7:=F1.sm L1 npf.symm k7
    refine Fz (fun h4=>?_) (fun h4=>O4 (hD1 _ _ ⟨⟨_,_,rfl⟩,done (k1.trans k7) (by omega) L7 F7⟩))
    refine ex1 rfl (ex1 rfl ⟨by show 2<=sizeLine; decide,fun t4 ht4=>?_⟩)
    have F8:=F7.new (o:=.tup [.str one,.str one]) ht4
    have e7:=L7.get
    have L8:=L7.upd (o:=.tup [.str one,.str one]) (A8 e7 ht4)
    have k8:=(k1.trans k7).new (o:=.tup [.str one,.str one]) ht4
    refine ex1 rfl (a8 (k:=(one,one)) A7 F8.at_ F8.pin ⟨nm _ hone,nm _ hone⟩ (fun q hq=>⟨nm _ (F8.nm q hq).1,nm _ (F8.nm q hq).2⟩) ⟨_,rfl,?_⟩)
    refine Fz (fun h5=>?_) (fun h5=>hD1 _ _ ⟨⟨_,_,rfl⟩,done k8 (by omega) L8 F8⟩)
    have h5':(one,one) ∉ ps.map fun q=>q.2:=by simpa using h5
    have lps:=F8.len
    have lps':ps.length<=100:=Nat.le_trans lps (Nat.mul_le_mul hlen hlen)
    have rl:(J9 ps).length = ps.length:=by unfold J9; rw [List.length_map]
    refine ex1 rfl ⟨.inl ⟨rfl,_,SqL.of F8.at_⟩,ex1 rfl (ex1 rfl ⟨by show 2<=sizeLine; decide,fun t5 ht5=>?_⟩)⟩
    have F9:=F8.new (o:=.tup [.str one,.str one]) ht5
    have e8:=L8.get
    have L9:=L8.upd (o:=.tup [.str one,.str one]) (A8 e8 ht5)
    have k9:=k8.new (o:=.tup [.str one,.str one]) ht5
    refine ⟨f,B7 rfl rfl ⟨F9.at_,by rw [sizeLine_eq]; omega,hD1 _ _ ⟨⟨_,_,rfl⟩,done (k9.updN hf) (by omega) (L9.upd npf) (F9.app A7 hone hone h5')⟩⟩⟩
  ·rintro σ H1 ⟨⟨v4,v5,rfl⟩,k1,⟨c',hc',L1⟩,ps,F1⟩
   simp only [List.length_map] at hc'
   have lps:=F1.len
   have lps':ps.length<=100:=Nat.le_trans lps (Nat.mul_le_mul hlen hlen)
   exact ⟨_,rfl,q f ps c' H1 hf k1 F1.at_ F1.pin ⟨F1.nm,F1.nd,by omega⟩ (by omega) L1⟩
end
end Sw
namespace Sw
open PySem L2
theorem Cn {H H':Hp} {p:Addr} {c:Int} {q:PA2} (h:E6 H q) (L:LeftAt H p c) (s:Sm [p] H H'):E6 H' q:=by
 obtain ⟨x,y,e,_⟩:=L
 exact Sm1 s h (M8 h e (by intro z; cases z))
end Sw
namespace Sw
open PySem L2
theorem WebAt.sm {C:Addr} {H H':Hp} {x p:Addr} {c:Int} {ns:List Str} {qs:List PA2} (h:WebAt C H x ns qs) (L:LeftAt H p c) (s:Sm [p] H H'):WebAt C H' x ns qs:=by
 obtain ⟨ok,dx,a,b,c,d,kc,kd,e1,e2,e3,e4,e5,e6,e7,e8⟩:=h
 obtain ⟨y,z,e0,_⟩:=id L
 have k:∀ {b:Addr} {o:HO},H b = some o->o ≠ .lst [.int y,.int z,.int _]->H' b = some o:=fun e n=>Sm1 s e (M8 e e0 n)
 exact ⟨ok,dx,a,b,c,d,kc,kd,k e1 (by intro z; cases z),Sm1 s e2 (L.ne e2),Sm1 s e3 (L.neP e3),fun q hq=>Cn (e4 q hq) L s,k e5 (by intro z; cases z),k e6 (by intro z; cases z),fun n hn=>let ⟨l,v,e⟩:=e7 n hn; ⟨l,v,Sm1 s e (L.ne e)⟩,fun n hn=>let ⟨l,v,e⟩:=e8 n hn; ⟨l,v,Sm1 s e (L.ne e)⟩⟩
noncomputable def sd (ss:List Str):PyData:=.list (ss.map PyData.str)
theorem Js {K:PySem.W.Frag} {H:Hp}:∀ ss:List Str,Rps K H (ss.map PyData.str) (ss.map V.str)
 | []=>by simp [Rps]
 | x :: r=>by
  simp only [List.map_cons,Rps,Rp]
  exact ⟨_,_,rfl,rfl,Js r⟩
theorem Mp {K:PySem.W.Frag} {H:Hp} {l:Addr} {ss:List Str} (h:SqL K H l (ss.map V.str)):Rp K H (sd ss) (.ref l):=by
 unfold sd
 simp only [Rp]
 exact ⟨l,_,rfl,h,Js ss⟩
theorem Bt:∀ ss:List Str,PyData.depthAll (ss.map PyData.str)<=1
 | []=>by simp [PyData.depthAll]
 | x :: r=>by
  have:=Bt r
  simp only [List.map_cons,PyData.depthAll,PyData.depth]
  omega
theorem Jr:∀ {ss:List Str},(∀ x ∈ ss,PySem.PyData.strOk x = true)->PyData.canLayAll0 (ss.map PyData.str) = true
 | [],_=>rfl
 | x :: r,h=>by
  rw [List.map_cons,PyData.canLayAll0,Jr fun z hz=>h z (List.mem_cons_of_mem _ hz)]
  simp [PyData.canLay0,h x (List.mem_cons_self ..)]
theorem Nt {ss:List Str} (h:∀ x ∈ ss,M7 x = true):Pl (sd ss):=by
 refine ⟨?_,?_⟩
 ·unfold sd
  rw [PyData.canLay0]
  exact Jr fun x hx=>K9 (h x hx)
 ·unfold sd
  rw [PyData.depth]
  have:=Bt ss
  omega
end Sw
namespace Sw
open PySem L2
noncomputable def J0 (ks:List (Str × Str)) (n:Str):List Str:=(ks.filter fun k=>decide (k.2 = n)).map fun k=>k.1
theorem Fw (qs:List PA2) (n:Str):B3 qs n = J0 (qs.map fun q=>q.2) n:=by
 unfold B3 J0
 rw [List.filter_map,List.map_map]; rfl
theorem Eg {K:PySem.W.Frag} {l D:Addr} {kq:List PA2} {n:Str} {H1:Hp} {σ:St} {Q:St->Hp->Prop} (e:H1 l = some (.lst (J9 kq))) (p:∀ q ∈ kq,E6 H1 q) (len:kq.length<=200) (hD:H1 D = none) (hσ:∃ v0 v1,σ = [v0,v1,some (.str n)]) (h:∀ σ H2,Same H1 H2->H2 D = some (.lst ((J0 (kq.map fun q=>q.2) n).map V.str))->Q σ H2) :
  Ha (zAe K 2 (Og (T9 0) (Og (T9 1) zAs))) (Uy (tOp rEq (Mj 1) (Mj 2))) (Lw D (Mj 0)) (Itl K l) σ (upd H1 D (.lst [])) Q:=by
 refine Q3 (asL (K:=K) (SqL.of e)) (fun i σ H3=>(∃ v0 v1,σ = [v0,v1,some (.str n)])/\Same H1 H3/\H3 D = some (.lst ((J0 ((kq.take i).map fun q=>q.2) n).map V.str)))
  ⟨hσ,Same.new hD,A7⟩ (fun i σ H1 _ ⟨_,s1,_⟩=>s1.at l) ?_ ?_
 ·rintro i σ H3 v N hx ⟨⟨v0,v1,rfl⟩,s3,e3⟩ hN'
  unfold J9 at hx
  rw [List.getElem?_map] at hx
  obtain ⟨z,hz,rfl⟩:=Option.map_eq_some_iff.mp hx
  have hs1:J0 ((kq.take (i + 1)).map fun q=>q.2) n = J0 ((kq.take i).map fun q=>q.2) n ++ if z.2.2 = n then [z.2.1] else []:=by
   unfold J0
   rw [E2 hz,List.map_append,List.filter_append,List.map_append,List.map_cons,List.map_nil,List.filter_cons,List.filter_nil]
   by_cases c:z.2.2 = n
   ·rw [if_pos (decide_eq_true c),if_pos c]; rfl
   ·rw [if_neg fun y=>c (of_decide_eq_true y),if_neg c]; rfl
  have hl:((J0 ((kq.take i).map fun q=>q.2) n).map V.str).length<=200:=by
   unfold J0
   rw [List.length_map,List.length_map]
   have h:=(List.filter_sublist (l:=(kq.take i).map fun q=>q.2) (p:=fun k=>decide (k.2 = n))).length_le
   rw [List.length_map,List.length_take] at h
   omega
  refine ⟨z.1,ex1 rfl ⟨SqT.of (s3 _ _ (p z (List.mem_of_getElem? hz))),rfl,_,ex1 rfl (B7 rfl rfl ?_)⟩⟩
  refine ex1 rfl (ex1 rfl ⟨rfl,ex1 rfl (Fz (fun c=>?_) (fun c=>?_))⟩)
  ·have c:z.2.2 = n:=by injection of_decide_eq_true c
   refine ex1 rfl ⟨_,e3,by rw [sizeLine_eq]; omega,hN' _ _ ⟨⟨_,_,rfl⟩,s3.upd hD,?_⟩⟩
   rw [A7,hs1,if_pos c,List.map_append]; rfl
  ·have c:¬ z.2.2 = n:=fun y=>c (decide_eq_true (congrArg V.str y))
   exact hN' _ _ ⟨⟨_,_,rfl⟩,s3,by rw [hs1,if_neg c,List.append_nil]; exact e3⟩
 ·rintro σ H3 ⟨_,s3,e3⟩
  have el:(J9 kq).length = kq.length:=by unfold J9; rw [List.length_map]
  rw [el,List.take_length] at e3
  exact h σ H3 s3 e3
theorem Uk {q r:PA2} (h:leP q r):leS q.2.1 r.2.1:=fun z=>by
 have e:TS.pairLt (Wq r) (Wq q) = true:=TS.pairLt_iff.mpr (.inl z)
 rw [show TS.pairLt (Wq r) (Wq q) = false from h] at e
 cases e
theorem Gq {qs:List PA2} (h:qs.Pairwise leP) (n:Str):(B3 qs n).Pairwise leS:=by
 unfold B3
 rw [List.pairwise_map]
 exact (h.filter _).imp fun {a b} z=>Uk z
theorem Gz {qs ps:List PA2} {n:Str} {ts:List Str} (h:qs.Pairwise leP) (k:(qs.map fun q=>q.2).Perm (ps.map fun q=>q.2)) (p:ts.Perm (J0 (ps.map fun q=>q.2) n)) (w:ts.Pairwise leS):ts = B3 qs n :=
 Z8 w (Gq h n) (p.trans (by rw [Fw]; exact ((k.symm.filter _).map _)))
end Sw
namespace Sw
open PySem L2
theorem Qy {K:PySem.W.Frag} {x:Str} {H:Hp} {Q:VK} (o:PySem.PyData.strOk x = true) (q:Q (.bl true) H):zAa K (.str x) (.str x) H Q:=by
 have e:Rp K H (.str x) (.str x):=by simp only [Rp]
 have p:Pl (.str x):=⟨by rw [PyData.canLay0]; exact o,by rw [PyData.depth]; decide⟩
 exact ⟨_,_,e,e,p,p,by rw [PySem.SeqAt.eqv_refl _ p.1]; exact q⟩
noncomputable def tyB (b:Bool):Value:=.type (bif b then "list" else "tuple")
theorem Zd {K:PySem.W.Frag}:∀ b,PySem.W.kitOne K (tyB b) (.type "list") = some b
 | true=>rfl
 | false=>rfl
theorem Wy {K:PySem.W.Frag}:∀ b,PySem.W.kitOne K (tyB b) (.type "tuple") = some !b
 | true=>rfl
 | false=>rfl
theorem zBf {K:PySem.W.Frag}:∀ b,PySem.W.kitAny K (tyB b) (["list", "tuple"].map Value.type) = some true
 | true=>rfl
 | false=>rfl
theorem Xj (b:Bool):(!decide (V.bl b = V.bl b)) = false:=congrArg _ (decide_eq_true rfl)
noncomputable def LT (b:Bool) (xs:List V):HO:=bif b then .lst xs else .tup xs
theorem Mo {K:PySem.W.Frag} {H:Hp} {l:Addr} {xs:List V}:∀ {b:Bool},H l = some (LT b xs)->TyOf K H (.ref l) (tyB b)
 | true,h=>.lst h
 | false,h=>.tup h
theorem Ye {H:Hp} {l:Addr} {xs:List V}:∀ {b:Bool},H l = some (LT b xs)->H l = some (.lst xs)\/H l = some (.tup xs)
 | true,h=>.inl h
 | false,h=>.inr h
noncomputable def sqB (K:PySem.W.Frag) (b:Bool):Hp->Addr->List V->Prop:=bif b then SqL K else SqT K
theorem Ks {K:PySem.W.Frag} {H:Hp} {l:Addr} {xs:List V}:∀ {b:Bool},H l = some (LT b xs)->sqB K b H l xs
 | true,h=>SqL.of h
 | false,h=>SqT.of h
theorem Tm {K:PySem.W.Frag} {H:Hp} {l:Addr} {xs:List V} {b:Bool} (h:H l = some (LT b xs)):Sqs K H l xs:=(Ye h).imp SqL.of SqT.of
theorem Wv {K:PySem.W.Frag} {H:Hp} {l m:Addr} {xs ys:List V} {R:It->Hp->Prop}:∀ {b:Bool},H l = some (LT b xs)->H m = some (LT b ys)->R (Wr (sqB K b) l m) H->zBm K R l m xs ys H
 | true,h,h',q=>.inl ⟨SqL.of h,SqL.of h',q⟩
 | false,h,h',q=>.inr ⟨SqT.of h,SqT.of h',q⟩
noncomputable def zBi (K:PySem.W.Frag):List V->Hp->VK->Prop:=fun xs H Q=>Wf K xs H Q\/∃ (x:V) (p:Addr) (ns:List String) (b:Bool) (T:String),xs = [x,.ref p]/\H p = some (.tup (ns.map V.ty))/\((x = .non/\T = "NoneType")\/∃ i,x = .int i/\T = "int")/\PySem.W.kitAny K (.type T) (ns.map Value.type) = some b/\Q (.bl b) H
theorem Sv {X:Cx} (K:PySem.W.Frag) (hK:X.K = K:=by rfl):E9 X (.builtin "isinstance") (zBi K):=by
 subst hK
 intro pins s σ H xs us Q I r h
 rcases h with h | ⟨x,p,ns,b,T,rfl,hp,ht,he,q⟩
 ·exact Qu X.K rfl pins s σ H xs us Q I r h
 obtain ⟨u,v,rfl,ru,rv⟩:=r.two
 cases rv
 obtain ⟨its,rv,⟨⟨oc,od,odt,osl⟩,ho,hc,n,hd⟩,hz⟩:=I.tuple (SqT.of hp)
 rw [Ic rv] at hd
 cases hc
 cases hd
 rcases ht with ⟨rfl,rfl⟩ | ⟨i,rfl,rfl⟩
 ·cases ru
  exact PySem.W.kia_tup PySem.W.kitx_none I.kIn True.intro ho he (fun z=>nomatch z) fun tk=>⟨.bl b,H,I.tok _,rfl,q⟩
 ·obtain ⟨t,rfl⟩:=(show ∃ t,u = Value.int i t from ru)
  exact PySem.W.kia_tup PySem.W.kitx_int I.kIn True.intro ho he (fun z=>nomatch z) fun tk=>⟨.bl b,H,I.tok _,rfl,q⟩
theorem Iv {K:PySem.W.Frag} {d:PyData} {v:V} {H:Hp} {Q:VK} (e:Rp K H d v) (o:PyData.canLay0 d = true) (z:d.depth<=1) (q:Q (.bl true) H):zAa K v v H Q:=by
 have p:Pl d:=⟨o,Nat.le_trans z (by decide)⟩
 exact ⟨_,_,e,e,p,p,by rw [PySem.SeqAt.eqv_refl _ p.1]; exact q⟩
section
variable {P:Program} {w:World} {K:PySem.W.Frag} {mg:Str->Option Value} {base:Heap}
theorem Aj:FnScope ["_law_found", "_law_due"] ["_law_found", "_law_due"] (B5 s_law_same):=⟨rfl,rfl,rfl,by decide +kernel,rfl,by decide +kernel,by decide +kernel⟩
noncomputable def Av:Sp:=fun _ _ _ _=>False
theorem Cm {f:Addr} {fd:FuncData} {ps:List Str}:FnOk P w K mg base CX0 0 f fd ps Av:=⟨fun _ _ _ _ h=>h.elim,fun _ _ _ _ _ _ _ _ _ _ _ _ _ h=>h.elim⟩
noncomputable def Y3 (S:Sp):Sp:=fun vs H Q _=>(∃ a:Str,vs = [.str a,.str a]/\PySem.PyData.strOk a = true/\∀ H',Same H H'->Q (.bl true) H')\/(∃ v:V,vs = [v,v]/\(v = .non\/∃ i,v = .int i)/\∀ H',Same H H'->Q (.bl true) H') \/
 ∃ (l m:Addr) (b:Bool) (xs ys:List V),vs = [.ref l,.ref m]/\H l = some (LT b xs)/\H m = some (LT b ys)/\xs.length = ys.length/\xs.length<=200 /\
  (∀ (i:Nat) (x y:V) (H':Hp) (Q':VK) (E:XK),xs[i]? = some x->ys[i]? = some y->Same H H'->(∀ H'',Same H' H''->Q' (.bl true) H'')->S [x,y] H' Q' E)/\∀ H',Same H H'->Q (.bl true) H'
theorem S4 (T:Tx K mg) {n:Nat} {S:Sp} (G_law_same:FnOk P w K mg base CX0 n T.law_same.f T.law_same.fd ["_law_found", "_law_due"] S):FnOk P w K mg base CX0 (n + 1) T.law_same.f T.law_same.fd ["_law_found", "_law_due"] (Y3 S):=by
 have sc:=Aj
 refine T.law_same.F.ok Aj (fun vs H Q E h=>?_) (fun cdv A outer s H vs Q E hr h=>?_)
 ·rcases h with ⟨a,rfl,_⟩ | ⟨v,rfl,_⟩ | ⟨l,m,b,xs,ys,rfl,_⟩
  ·rfl
  ·rfl
  ·rfl
 ·refine ⟨_,(B0 (I0 (M0 (D0 (Sv K) T.b_isinstance B8 (A6 (pv 1) (A6 (T0 (A6 (T7 T.b_list T1) (A6 (T7 T.b_tuple p8) A9))) A9)))) (B0 (I0 (PW.pt (Dx (B9 Ld (D0 (K7 K) T.b_isinstance B8 (A6 (pv 0) (A6 (T7 T.b_list T1) A9))) (D0 (K7 K) T.b_isinstance B8 (A6 (pv 1) (A6 (T7 T.b_list T1) A9))) (C8 _)) (W7 (B9 Ld (D0 (K7 K) T.b_isinstance B8 (A6 (pv 0) (A6 (T7 T.b_tuple p8) A9))) (D0 (K7 K) T.b_isinstance B8 (A6 (pv 1) (A6 (T7 T.b_tuple p8) A9))) (C8 _))))) (B1 (C0 Gr)) C1)
   (B1 (C0 (g9 (I9 Q7 (D0 (O7 K) T.b_len O3 (A6 (pv 0) A9)) (D0 (O7 K) T.b_len O3 (A6 (pv 1) A9)) (C8 _)) (u9 (D0 (Kj K) T.b_all Je (A6 (Aw (N':=["_law_one", "_law_other"]) (cap:=[none,none]) (cl:=[]) (V2 trivial trivial) rfl (zDb K T.b_zip (A6 (pv 0) (A6 (pv 1) A9))) (fun _ _ _ _=>by exact ⟨(pgT K (n:=2) (E5 (pgC 0) (E5 (pgC 1) T2))),O9,(E4 T.law_same G_law_same (hr.mono (Nat.le_refl _)) (A6 (pv 0) (A6 (pv 1) A9)))⟩)) A9))))))) C1)
   (B0 (I0 (PW.pt (Dx (B9 Xr (pv 1) Qb (C8 _)) (W7 (M0 (D0 (K7 K) T.b_isinstance B8 (A6 (pv 1) (A6 (T7 T.b_str Iu) A9))))))) (B1 (C0 (g9 (I9 (Tc K hr.units) (pv 0) (pv 1) (C8 _)) (u9 (I9 Q7 (D0 (K7 K) T.b_isinstance B8 (A6 (pv 0) (A6 (T7 T.b_str Iu) A9))) (D0 (K7 K) T.b_isinstance B8 (A6 (pv 1) (A6 (T7 T.b_str Iu) A9))) (C8 _)))))) C1)
   (B0 (I0 (M0 (D0 (K7 K) T.b_isinstance B8 (A6 (pv 1) (A6 (T7 T.b_bool Hx) A9)))) (B1 (C0 (g9 (D0 (K7 K) T.b_isinstance B8 (A6 (pv 0) (A6 (T7 T.b_bool Hx) A9))) (u9 (I9 (Tc K hr.units) (pv 0) (pv 1) (C8 _)))))) C1)
   (B1 (C0 (g9 (D0 (K7 K) T.b_isinstance B8 (A6 (pv 0) (A6 (T7 T.b_int Ji) A9))) (g9 (Tw (D0 (K7 K) T.b_isinstance B8 (A6 (pv 0) (A6 (T7 T.b_bool Hx) A9)))) (u9 (I9 (Tc K hr.units) (pv 0) (pv 1) (C8 _)))))))))),?_⟩
  rcases h with ⟨b,rfl,ob,q⟩ | ⟨v,rfl,hv,q⟩ | ⟨l,m,b,xs,ys,rfl,hl,hm,el,len,hS,q⟩
  ·refine ex1 rfl ⟨by show 2<=sizeLine; decide,fun t ht=>?_⟩
   have s1:=Same.new (o:=.tup [.ty "list",.ty "tuple"]) ht
   refine .inl ⟨.str b,t,["list", "tuple"],_,false,rfl,A7,.str b,.inl ⟨b,rfl⟩,rfl,?_⟩
   generalize upd H t (.tup [.ty "list",.ty "tuple"]) = H1 at s1 ⊢
   refine ex1 rfl (O4 ?_)
   refine ex1 rfl ⟨rfl,ex1 rfl (O4 ?_)⟩
   refine ex1 rfl ⟨.str b, "str",_,true,rfl,.str b,rfl,ex1 rfl (T6 ?_)⟩
   refine ex1 rfl (ex1 rfl (Qy ob ⟨_,rfl,T6 ?_⟩))
   refine ex1 rfl ⟨.str b, "str",_,true,rfl,.str b,rfl,ex1 rfl ⟨.str b, "str",_,true,rfl,.str b,rfl,?_⟩⟩
   exact ⟨rfl,q _ s1⟩
  ·refine ex1 rfl ⟨by show 2<=sizeLine; decide,fun t ht=>?_⟩
   have s1:=Same.new (o:=.tup [.ty "list",.ty "tuple"]) ht
   have t1:(upd H t (.tup [.ty "list",.ty "tuple"])) t = some (.tup (["list", "tuple"].map V.ty)):=A7
   generalize upd H t (.tup [.ty "list",.ty "tuple"]) = H1 at s1 t1 ⊢
   rcases hv with rfl | ⟨i,rfl⟩
   ·refine .inr ⟨.non,t,["list", "tuple"],false,_,rfl,t1,.inl ⟨rfl,rfl⟩,rfl,?_⟩
    refine ex1 rfl (O4 ?_)
    refine ex1 rfl ⟨rfl,ex1 rfl (T6 ?_)⟩
    refine ex1 rfl (ex1 rfl (Iv (d:=.none) (by simp only [Rp]) rfl (by rw [PyData.depth]; decide) ⟨_,rfl,T6 ?_⟩))
    refine ex1 rfl ⟨.non, "str",_,false,rfl,.non,rfl,ex1 rfl ⟨.non, "str",_,false,rfl,.non,rfl,?_⟩⟩
    exact ⟨rfl,q _ s1⟩
   ·refine .inr ⟨.int i,t,["list", "tuple"],false,_,rfl,t1,.inr ⟨i,rfl,rfl⟩,rfl,?_⟩
    refine ex1 rfl (O4 ?_)
    refine ex1 rfl ⟨rfl,ex1 rfl (O4 ?_)⟩
    refine ex1 rfl ⟨.int i, "str",_,false,rfl,.int i,rfl,ex1 rfl (O4 ?_)⟩
    refine ex1 rfl ⟨.int i, "bool",_,false,rfl,.int i,rfl,ex1 rfl (O4 ?_)⟩
    refine ex1 rfl ⟨.int i, "int",_,true,rfl,.int i,rfl,ex1 rfl (T6 ?_)⟩
    refine ex1 rfl ⟨.int i, "bool",_,false,rfl,.int i,rfl,ex1 rfl (ex1 rfl (T6 ?_))⟩
    exact ex1 rfl (ex1 rfl (Iv (d:=.int i) (by simp only [Rp]) rfl (by rw [PyData.depth]; decide) (q _ s1)))
  ·refine ex1 rfl ⟨by show 2<=sizeLine; decide,fun t ht=>?_⟩
   have s1:=Same.new (o:=.tup [.ty "list",.ty "tuple"]) ht
   have l1:=s1 _ _ hl
   have m1:=s1 _ _ hm
   refine .inl ⟨.ref m,t,["list", "tuple"],_,true,rfl,A7,Mo m1,.inr ⟨m,_,rfl,Ye m1⟩,zBf b,?_⟩
   generalize upd H t (.tup [.ty "list",.ty "tuple"]) = H1 at s1 l1 m1 ⊢
   refine ex1 rfl (T6 ?_)
   refine ex1 rfl ⟨.ref l, "list",_,b,rfl,Mo l1,Zd b,ex1 rfl ⟨.ref m, "list",_,b,rfl,Mo m1,Zd b,rfl,?_⟩⟩
   refine ⟨false,congrArg V.bl (Xj b),O4 ?_⟩
   refine ex1 rfl ⟨.ref l, "tuple",_,_,rfl,Mo l1,Wy b,ex1 rfl ⟨.ref m, "tuple",_,_,rfl,Mo m1,Wy b,rfl,?_⟩⟩
   refine ⟨false,congrArg V.bl (Xj !b),O4 ?_⟩
   refine ex1 rfl (B7 (a:=l) rfl (Tm l1) (ex1 rfl (B7 (a:=m) rfl (Tm m1) ⟨rfl,ex1 rfl ?_⟩)))
   refine Fz (fun _=>?_) (fun h=>absurd (decide_eq_true (congrArg (fun k:Nat=>V.int k) el)) h)
   refine ex1 rfl (ex1 rfl ⟨l,m,xs,ys,?_⟩)
   refine ⟨rfl,Wv l1 m1 fun D hD=>?_⟩
   refine Ny (n:=xs.length) (fun i σ H2=>(∃ v0 v1,σ = [v0,v1])/\Same H1 H2/\H2 D = some (.lst ((List.replicate i true).map V.bl))) ⟨⟨_,_,rfl⟩,Same.new hD,A7⟩ ?_ ?_ ?_ ?_
   ·rintro i σ H2 hi ⟨_,s2,_⟩
    exact ⟨_,_,_,_,Ks (s2 _ _ l1),Ks (s2 _ _ m1),Nat.le_of_eq el,List.getElem?_eq_getElem hi,List.getElem?_eq_getElem (el ▸ hi)⟩
   ·rintro σ H2 ⟨_,s2,_⟩
    exact ⟨_,_,Ks (s2 _ _ l1),Ks (s2 _ _ m1),Nat.le_of_eq el,rfl⟩
   ·rintro i σ H2 x H3 N hi ⟨⟨v0,v1,rfl⟩,s2,e2⟩ ⟨u,x,y,rfl,hu,rfl,hx,hy⟩ hN
    have s3:=Same.new (o:=.tup [x,y]) hu
    refine ⟨u,ex1 rfl ⟨SqT.of A7,rfl,_,ex1 rfl (B7 rfl rfl ?_)⟩⟩
    refine ex1 rfl (ex1 rfl (hS i x y _ _ _ (hx _ (Ks (s2 _ _ l1))) (hy _ (Ks (s2 _ _ m1))) ((s1.trans s2).trans s3) fun H4 s4=>?_))
    refine ⟨_,s4 _ _ (s3 _ _ e2),by rw [List.length_map,List.length_replicate,sizeLine_eq]; omega,hN _ _ ⟨⟨_,_,rfl⟩,((s2.trans s3).trans s4).upd hD,?_⟩⟩
    rw [A7,List.replicate_succ',List.map_append]; rfl
   ·rintro σ H2 ⟨_,s2,e2⟩
    have e:(List.replicate xs.length true).all id = true:=List.all_eq_true.mpr fun x hx=>(List.mem_replicate.mp hx).2
    have q':Q (.bl ((List.replicate xs.length true).all id)) H2:=e.symm ▸ q _ (s1.trans s2)
    exact ⟨D,_,rfl,SqL.of e2,q'⟩
end
end Sw
namespace Sw
open PySem L2
structure SP (H:Hp) (st:Addr) (qs ps:List PA2):Prop where
 at_:H st = some (.lst (J9 ps))
 pin:∀ q ∈ ps,E6 H q
 so:qs.Pairwise leP
 kq:(qs.map fun q=>q.2).Perm (ps.map fun q=>q.2)
 len:ps.length<=200
theorem SP.same {H H':Hp} {st:Addr} {qs ps:List PA2} (h:SP H st qs ps) (s:Same H H'):SP H' st qs ps:=⟨s _ _ h.at_,J3 s h.pin,h.so,h.kq,h.len⟩
theorem Bl {y:Str}:∀ {xs l:List Str},y ∈ U3 l xs ↔ y ∈ l\/y ∈ xs
 | [],l=>by simp [U3]
 | x :: xs,l=>by
  show y ∈ U3 (Ek l x) xs ↔ _
  rw [Bl]
  have:y ∈ Ek l x ↔ y ∈ l\/y = x:=by
   unfold Ek
   by_cases h:x ∈ l
   ·rw [if_pos h]
    exact ⟨.inl,fun z=>z.elim id fun e=>e ▸ h⟩
   ·rw [if_neg h,List.mem_append,List.mem_singleton]
  rw [this,List.mem_cons,or_assoc]
theorem Ge:∀ {xs l:List Str},l.Nodup->(U3 l xs).Nodup
 | [],l,h=>h
 | x :: xs,l,h=>by
  show (U3 (Ek l x) xs).Nodup
  refine Ge ?_
  unfold Ek
  by_cases c:x ∈ l
  ·rw [if_pos c]; exact h
  ·rw [if_neg c]
   exact List.nodup_append.mpr ⟨h,by simp,fun a ha b hb z=>c (by rw [List.mem_singleton.mp hb] at z; exact z ▸ ha)⟩
theorem Ki {K:PySem.W.Frag} {l D:Addr} {kq:List PA2} {r:St} {tc:TT} {j:Nat} {H1:Hp} {Q:St->Hp->Prop} (p:Str × Str->Bool) (f:Str × Str->Str) (e:H1 l = some (.lst (J9 kq))) (pin:∀ q ∈ kq,E6 H1 q) (len:kq.length<=200) (hD:H1 D = none)
  (ht:∀ q ∈ kq,∀ H2,Same H1 H2->∀ Q':Bool->Hp->Prop,(∀ H3,Same H2 H3->Q' (p q.2) H3)->tc (some (.str q.2.1) :: some (.str q.2.2) :: r) H2 Q') (hj:∀ q:PA2,(some (V.str q.2.1) :: some (V.str q.2.2) :: r)[j]? = some (some (.str (f q.2))))
  (h:∀ σ H2,Same H1 H2->H2 D = some (.lst ((((kq.map fun q=>q.2).filter p).map f).map V.str))->Q σ H2) (v0 v1:Option V) :
  Ha (zAe K 2 (Og (T9 0) (Og (T9 1) zAs))) tc (Lw D (Mj j)) (Itl K l) (v0 :: v1 :: r) (upd H1 D (.lst [])) Q:=by
 refine Q3 (asL (K:=K) (SqL.of e)) (fun i σ H3=>(∃ v0 v1,σ = v0 :: v1 :: r)/\Same H1 H3/\H3 D = some (.lst (((((kq.take i).map fun q=>q.2).filter p).map f).map V.str))) ⟨⟨_,_,rfl⟩,Same.new hD,A7⟩ (fun i σ H1 _ ⟨_,s1,_⟩=>s1.at l) ?_ ?_
 ·rintro i σ H3 v N hx ⟨⟨v0,v1,rfl⟩,s3,e3⟩ hN'
  unfold J9 at hx
  rw [List.getElem?_map] at hx
  obtain ⟨z,hz,rfl⟩:=Option.map_eq_some_iff.mp hx
  have hs1:((((kq.take (i + 1)).map fun q=>q.2).filter p).map f) = ((((kq.take i).map fun q=>q.2).filter p).map f) ++ if p z.2 = true then [f z.2] else []:=by
   rw [E2 hz,List.map_append,List.filter_append,List.map_append,List.map_cons,List.map_nil,List.filter_cons,List.filter_nil]
   by_cases c:p z.2 = true
   ·rw [if_pos c,if_pos c]; rfl
   ·rw [if_neg c,if_neg c]; rfl
  have hl:(((((kq.take i).map fun q=>q.2).filter p).map f).map V.str).length<=200:=by
   rw [List.length_map,List.length_map]
   have h:=List.length_filter_le p ((kq.take i).map fun q=>q.2)
   rw [List.length_map,List.length_take] at h
   omega
  refine ⟨z.1,ex1 rfl ⟨SqT.of (s3 _ _ (pin z (List.mem_of_getElem? hz))),rfl,_,ex1 rfl (B7 rfl rfl ?_)⟩⟩
  refine ht z (List.mem_of_getElem? hz) H3 s3 _ fun H4 s4=>?_
  have e4:=s4 _ _ e3
  have s34:=s3.trans s4
  refine Fz (fun c=>⟨_,hj z,_,e4,by rw [sizeLine_eq]; omega,hN' _ _ ⟨⟨_,_,rfl⟩,s34.upd hD,?_⟩⟩) (fun c=>hN' _ _ ⟨⟨_,_,rfl⟩,s34,?_⟩)
  ·rw [A7,hs1,if_pos c,List.map_append]; rfl
  ·rw [hs1,if_neg c,List.append_nil]; exact e4
 ·rintro σ H3 ⟨_,s3,e3⟩
  have el:(J9 kq).length = kq.length:=by unfold J9; rw [List.length_map]
  rw [el,List.take_length] at e3
  exact h σ H3 s3 e3
theorem Me {ns:List Str} {qs:List PA2} {li:List Str} (hne:li ≠ []) (c:unq qs li = true):C9 false ns qs li = []:=by
 have ht:K4 false qs li = "asker":=by unfold K4; rw [Bool.not_false,Bool.true_and,if_pos c]
 unfold C9 V8
 rw [ht,if_neg (by decide),List.filter_eq_nil_iff]
 intro y _ z
 unfold Xo at z
 rw [if_neg (by decide)] at z
 have h:=Sb hne
 exact quiet_iff.mp z _ (List.mem_append_left _ h) _ (List.mem_append_left _ h) (of_decide_eq_true c)
theorem o7 {f:Bool} {qs:List PA2} {li:List Str} (c0:(!f && unq qs li) = false) (c:li.length % 2 = 1):K4 f qs li = "doubter":=by
 unfold K4
 rw [c0,if_neg (by decide),if_neg (by omega)]
theorem X5 {f:Bool} {qs:List PA2} {li:List Str} (c:li.length % 2 = 0):K4 f qs li = "asker":=by
 unfold K4
 by_cases h:(!f && unq qs li) = true
 ·rw [if_pos h]
 ·rw [if_neg h,if_pos c]
theorem Su {qs:List PA2} {li:List Str} (c:unq qs li = true):K4 false qs li = "asker":=by
 unfold K4
 rw [Bool.not_false,Bool.true_and,if_pos c]
noncomputable def inB (ss:List Str) (q:PA2):Bool:=decide (q.2.1 ∈ ss) && decide (q.2.2 ∈ ss)
theorem Pc {K:PySem.W.Frag} {H:Hp} {t l:Addr} {k:Str × Str} {ps:List PA2} {Q:VK} (ht:H t = some (.tup [.str k.1,.str k.2])) (hl:H l = some (.lst (J9 ps))) (hp:∀ q ∈ ps,E6 H q)
  (hk:PySem.PyData.strOk k.1 = true/\PySem.PyData.strOk k.2 = true) (hs:∀ q ∈ ps,PySem.PyData.strOk q.2.1 = true/\PySem.PyData.strOk q.2.2 = true) (q:Q (.bl (decide (k ∈ ps.map fun q=>q.2))) H):Wm K false (.ref t) (.ref l) H Q :=
 ⟨pd k,_,Hh ht,.inl (Jb hl hp),⟨Mh hk.1 hk.2,by simp [pd,PyData.depth,PyData.depthAll]⟩,Hn hs,by rw [if_neg (by decide),u8]; exact q⟩
section
variable {P:Program} {w:World} {K:PySem.W.Frag} {mg:Str->Option Value} {base:Heap}
theorem S6:FnScope ["_law_strikes_here", "_law_name"] ["_law_strikes_here", "_law_name"] (B5 s_law_strikers):=⟨rfl,rfl,rfl,by decide +kernel,rfl,by decide +kernel,by decide +kernel⟩
noncomputable def j7:Sp:=fun vs H Q _=>∃ st n qs ps,vs = [.ref st,.str n]/\SP H st qs ps/\∀ a H',Same H H'->H a = none->H' a = some (.lst ((B3 qs n).map V.str))->Q (.ref a) H'
theorem y3 (T:Tx K mg):FnOk P w K mg base CX0 1 T.law_strikers.f T.law_strikers.fd ["_law_strikes_here", "_law_name"] j7:=by
 have sc:=S6
 refine T.law_strikers.F.ok S6 (fun vs H Q E h=>?_) (fun cdv A outer s H vs Q E hr h=>?_)
 ·obtain ⟨st,n,qs,ps,rfl,_⟩:=h
  rfl
 ·obtain ⟨st,n,qs,ps,rfl,hS,q⟩:=h
  refine ⟨_,(B1 (C0 (D0 (Rw K) T.b_sorted Q5 (A6 (Aw (N':=["_law_one", "_law_other", "_law_name"]) (cap:=[none,none,some 1]) (cl:=[("_law_name",_)]) (V2 ⟨⟨rfl,rfl,rfl,rfl⟩,trivial⟩ ⟨rfl,trivial⟩) rfl (piL K (pv 0)) (fun _ _ _ _=>by exact ⟨(pgT K (n:=2) (E5 (pgC 0) (E5 (pgC 1) T2))),(Z7 (B9 Q7 (pv 1) (pv 2) (C8 _))),(pv 0)⟩)) A9)))),?_⟩
  refine ex1 rfl ⟨st,rfl,⟨_,SqL.of hS.at_⟩,fun D hD=>Eg hS.at_ hS.pin hS.len hD ⟨_,_,rfl⟩ fun σ H3 s3 e3=>?_⟩
  refine ⟨D,_,rfl,SqL.of e3,fun a ts ha pt wt=>?_⟩
  rw [Gz hS.so hS.kq pt wt]
  exact q a _ (s3.trans (Same.new ha)) (s3.free ha) A7
theorem i8:FnScope ["_law_strikes_here", "_law_named", "_law_firm", "_law_last", "_law_own", "_law_found", "_law_quiet", "_law_name", "_law_some", "_law_hit"] ["_law_strikes_here", "_law_named", "_law_firm"] (B5 s_law_moves):=⟨rfl,rfl,rfl,by decide +kernel,rfl,by decide +kernel,by decide +kernel⟩
noncomputable def Ab:Sp:=fun vs H Q _=>∃ f st nm ns qs ps li,vs = [.ref st,.ref nm,.bl f]/\SP H st qs ps/\WebOk ns qs/\(∀ y ∈ ns,M7 y = true)/\H nm = some (.lst (li.map V.str))/\li ≠ []/\(∀ n ∈ li,n ∈ ns)/\li.length<=150/\∀ a H',Same H H'->H a = none->H' a = some (.lst ((C9 f ns qs li).map V.str))->Q (.ref a) H'
set_option maxHeartbeats 2000000 in
theorem d6 (T:Tx K mg):FnOk P w K mg base CX0 2 T.law_moves.f T.law_moves.fd ["_law_strikes_here", "_law_named", "_law_firm"] Ab:=by
 have G_law_strikers:FnOk P w K mg base CX0 1 T.law_strikers.f T.law_strikers.fd ["_law_strikes_here", "_law_name"] j7:=y3 T
 have sc:=i8
 refine T.law_moves.F.ok i8 (fun vs H Q E h=>?_) (fun cdv A outer s H vs Q E hr h=>?_)
 ·obtain ⟨f,st,nm,ns,qs,ps,li,rfl,_⟩:=h
  rfl
 ·obtain ⟨f,st,nm,ns,qs,ps,li,rfl,hS,okw,hN,en,hne,hmem,hl,q⟩:=h
  refine ⟨_,(B0 (Nk (T0 (A6 (E3 (ixL K) (pv 1) (Td Jn B4) (fun _ _=>rfl)) (A6 (Fq K (pv 1) (Dr B4) (Dr B4)) A9))) (pgT K (n:=2) (E5 (G9 (i:=3) sc.nd rfl (by first | exact Or.inl rfl | exact Or.inr rfl)) (E5 (G9 (i:=4) sc.nd rfl (by first | exact Or.inl rfl | exact Or.inr rfl)) T2))))
   (B0 (I0 (M0 (pv 2)) (B0 (C5 (i:=5) sc.nd rfl (by first | exact Or.inl rfl | exact Or.inr rfl) (E4 T.law_strikers G_law_strikers (hr.mono (by decide)) (A6 (pv 0) (A6 (pv 3) A9))))
   (B1 (C0 (Aw (N':=["_law_name", "_law_own", "_law_named"]) (cap:=[none,some 4,some 1]) (cl:=[("_law_own",_),("_law_named",_)]) (V2 ⟨⟨rfl,rfl,rfl,rfl⟩,⟨⟨rfl,rfl,rfl,rfl⟩,trivial⟩⟩ ⟨rfl,⟨rfl,trivial⟩⟩) rfl (piL K (pv 5)) (fun _ _ _ _=>by exact ⟨(pgC 0),(Z7 (PW.pt (Dx (B9 Q7 (K0 b9 (D0 (O7 K) T.b_len O3 (A6 (pv 2) A9)) B4) B4 (C8 _)) (W7 (B9 (P4 K) (pv 0) (pv 1) rfl))))),(pv 0)⟩))))) C1)
   (B0 (I0 (B9 (Xz K hr.units) (T0 (A6 (E3 (ixL K) (pv 1) B4 (fun _ _=>rfl)) (A6 (E3 (ixL K) (pv 1) B4 (fun _ _=>rfl)) A9))) (pv 0) rfl) (B1 (C0 (G8 A9))) C1)
   (B0 (I0 (B9 Q7 (K0 b9 (D0 (O7 K) T.b_len O3 (A6 (pv 1) A9)) B4) B4 (C8 _)) (B0 (C5 (i:=6) sc.nd rfl (by first | exact Or.inl rfl | exact Or.inr rfl) (G8 A9))
   (B0 (S9 PassesOwn.never rfl (piL K (E4 T.law_strikers G_law_strikers (hr.mono (by decide)) (A6 (pv 0) (A6 (pv 3) A9)))) (G9 (i:=7) sc.nd rfl (by first | exact Or.inl rfl | exact Or.inr rfl))
   (B0 (C5 (i:=8) sc.nd rfl (by first | exact Or.inl rfl | exact Or.inr rfl) (K0 Te (pv 4) (G8 (A6 (pv 7) A9))))
   (B1 (I0 (U5 (M0 (D0 (Wt K) T.b_any Zk (A6 (Aw (N':=["_law_pair", "_law_some"]) (cap:=[none,some 8]) (cl:=[("_law_some",_)]) (V2 ⟨⟨rfl,rfl,rfl,rfl⟩,trivial⟩ ⟨rfl,trivial⟩) rfl (piL K (pv 0)) (fun _ _ _ _=>by exact ⟨(pgC 0),O9,(g9 (I9 (Ku K) (E3 (ixT K) (pv 0) B4 (fun _ _=>rfl)) (pv 1) rfl) (u9 (I9 (Ku K) (E3 (ixT K) (pv 0) B4 (fun _ _=>rfl)) (pv 1) rfl)))⟩)) A9)))) (B1 (C7 (Iy K PySem.F.plainAttrs_list PySem.F.slot_list_append PySem.F.type_list_append E8 (pv 6) (A6 (pv 7) A9)))) C1))))
   (B1 (C0 (pv 6))))) C1)
   (B0 (C5 (i:=9) sc.nd rfl (by first | exact Or.inl rfl | exact Or.inr rfl) (Aw (N':=["_law_one", "_law_other", "_law_own"]) (cap:=[none,none,some 4]) (cl:=[("_law_own",_)]) (V2 ⟨⟨rfl,rfl,rfl,rfl⟩,trivial⟩ ⟨rfl,trivial⟩) rfl (piL K (pv 0)) (fun _ _ _ _=>by exact ⟨(pgT K (n:=2) (E5 (pgC 0) (E5 (pgC 1) T2))),(Z7 (B9 (Ku K) (pv 0) (pv 2) rfl)),(pv 1)⟩)))
   (B0 (Qj (i:=5) (N':=["_law_one", "_law_other", "_law_own", "_law_hit"]) (cap:=[none,none,some 4,some 9]) (cl:=[("_law_own",_),("_law_hit",_)]) sc.nd rfl (by first | exact Or.inl rfl | exact Or.inr rfl) (V2 ⟨⟨rfl,rfl,rfl,rfl⟩,⟨⟨rfl,rfl,rfl,rfl⟩,trivial⟩⟩ ⟨rfl,⟨rfl,trivial⟩⟩) rfl (piL K (pv 0)) (fun _ _ _ _=>by exact ⟨(pgT K (n:=2) (E5 (pgC 0) (E5 (pgC 1) T2))),(Z7 (PW.pt (X0 (B9 (Ku K) (pv 1) (pv 2) rfl) (V3 (B9 (P4 K) (pv 0) (pv 3) rfl))))),(pv 0)⟩))
   (B1 (C0 (D0 (Dg w) T.b_sorted Q5 (A6 (Dw (So K w) T.b_set Pi (A6 (pv 5) A9)) A9)))))))))),?_⟩
  refine B6 fun N1 hN1=>?_
  refine ex1 rfl ⟨_,rfl,nm,_,B7 rfl rfl ⟨SqL.of en,Ct hne,?_⟩⟩
  refine ex1 rfl ⟨_,rfl,⟨_,rfl,.inr rfl,rfl,nm,_,rfl,SqL.of en,fun a1 ha1=>?_⟩⟩
  rw [Mv]
  have u1:=Same.new (o:=.lst ((evs li).map V.str)) ha1
  have f1:(upd H a1 (.lst ((evs li).map V.str))) a1 = some (.lst ((evs li).map V.str)):=A7
  generalize upd H a1 (.lst ((evs li).map V.str)) = H1 at u1 f1 ⊢
  refine ⟨by show 2<=sizeLine; decide,fun t ht=>?_⟩
  have u2:=Same.new (o:=.tup [.str (J4 li),.ref a1]) ht
  have f2:(upd H1 t (.tup [.str (J4 li),.ref a1])) t = some (.tup [.str (J4 li),.ref a1]):=A7
  generalize upd H1 t (.tup [.str (J4 li),.ref a1]) = H2 at u2 f2 ⊢
  refine ⟨t,ex1 rfl ⟨SqT.of f2,rfl,_,ex1 rfl (B7 rfl rfl ?_)⟩⟩
  have s2:=u1.trans u2
  have f1:=u2 _ _ f1
  have Sk:∀ a b,Ax qs a b ↔ (a,b) ∈ ps.map fun q=>q.2:=fun a b=>by
   rw [<-hS.kq.mem_iff]
   unfold Ax
   rw [List.mem_map]
   exact ⟨fun ⟨q,h,h1,h2⟩=>⟨q,h,Prod.ext h1 h2⟩,fun ⟨q,h,e⟩=>⟨q,h,congrArg Prod.fst e,congrArg Prod.snd e⟩⟩
  have okp:∀ q ∈ ps,q.2.1 ∈ ns/\q.2.2 ∈ ns:=fun q hq=>by
   obtain ⟨r,hr,e⟩:=List.mem_map.mp (hS.kq.mem_iff.mpr (List.mem_map.mpr ⟨q,hq,rfl⟩))
   have:=okw.mem r hr
   rw [e] at this
   exact this
  have oks:∀ q ∈ ps,PySem.PyData.strOk q.2.1 = true/\PySem.PyData.strOk q.2.2 = true:=fun q hq=>⟨K9 (hN _ (okp q hq).1),K9 (hN _ (okp q hq).2)⟩
  refine hN1 _ _ (B6 fun N2 hN2=>?_)
  cases f with
  | true =>
   refine ex1 rfl ⟨_,rfl,T6 ?_⟩
   refine B6 fun N3 hN3=>?_
   refine ex1 rfl (ex1 rfl ⟨st,J4 li,qs,ps,rfl,hS.same s2,fun a2 H3 s3 ha2 e3=>?_⟩)
   refine hN3 _ _ ?_
   refine ex1 rfl ⟨a2,rfl,⟨_,SqL.of e3⟩,fun D hD=>?_⟩
   have s23:=s2.trans s3
   have e1:=s23 _ _ en
   have f3:=s3 _ _ f1
   have ls:=K6 qs (J4 li)
   have lq:qs.length<=200:=okw.lenq
   have em:(B3 qs (J4 li)).filter (fun n=>decide (li.length % 2 = 1) || !decide (n ∈ evs li)) = C9 true ns qs li:=by
    unfold C9 V4 V8 Xo
    by_cases c:li.length % 2 = 1
    ·rw [o7 rfl c,if_pos rfl,if_pos rfl]
     simp [c]
    ·rw [X5 (by omega),if_neg (by decide)]
     simp [c]
   refine Ai (fun n=>decide (li.length % 2 = 1) || !decide (n ∈ evs li)) e3 (by omega) hD (fun y hy G sG Q' hQ'=>?_) (fun σ G sG eG=>q D G (s23.trans sG) (s23.free hD) (by rw [<-em]; exact eG)) none
   have hQ:=hQ' G (Same.refl _)
   refine ex1 rfl ⟨nm,_,rfl,.inl (SqL.of (sG _ _ e1)),B7 rfl rfl ⟨(show (0:Int) < 2 by decide),⟨rfl,ex1 rfl ?_⟩⟩⟩
   rw [List.length_map]
   by_cases c:li.length % 2 = 1
   ·rw [decide_eq_true c,Bool.true_or] at hQ
    rw [decide_eq_true (show V.int ((li.length:Int) % 2) = V.int 1 by rw [show (li.length:Int) % 2 = 1 by omega])]
    exact T6 hQ
   ·rw [decide_eq_false c,Bool.false_or] at hQ
    rw [decide_eq_false (show ¬ V.int ((li.length:Int) % 2) = V.int 1 from fun z=>c (by have:=V.int.inj z; omega))]
    refine O4 (ex1 rfl (ex1 rfl (J2 (.inl (SqL.of (sG _ _ f3))) ⟨_,rfl,hQ⟩)))
  | false =>
   refine ex1 rfl ⟨_,rfl,O4 ?_⟩
   refine hN2 _ _ (B6 fun N3 hN3=>?_)
   have en2:=s2 _ _ en
   have hS2:=hS.same s2
   have h0:atI (li.map V.str) ((0:Nat):Int) = some (.str (G0 li)):=Q8 (by rw [List.getElem?_map,Dj hne]; rfl)
   have oh:=K9 (hN _ (hmem _ (Ei hne)))
   refine ex1 rfl ⟨nm,_,B7 rfl rfl ⟨SqL.of en2,h0,ex1 rfl ⟨nm,_,B7 rfl rfl ⟨SqL.of en2,h0,⟨by show 2<=sizeLine; decide,fun t2 ht2=>?_⟩⟩⟩⟩⟩
   have u3:=Same.new (o:=.tup [.str (G0 li),.str (G0 li)]) ht2
   have g3:(upd H2 t2 (.tup [.str (G0 li),.str (G0 li)])) t2 = some (.tup [.str (G0 li),.str (G0 li)]):=A7
   generalize upd H2 t2 (.tup [.str (G0 li),.str (G0 li)]) = H3 at u3 g3 ⊢
   have s3:=s2.trans u3
   have hS3:=hS.same s3
   refine ex1 rfl (Pc (k:=(G0 li,G0 li)) g3 hS3.at_ hS3.pin ⟨oh,oh⟩ oks ⟨_,rfl,?_⟩)
   have eu:decide ((G0 li,G0 li) ∈ ps.map fun q=>q.2) = unq qs li:=by
    unfold unq
    exact decide_eq_decide.mpr (Sk _ _).symm
   rw [eu]
   cases c0:unq qs li with
   | true =>
    rw [Me hne c0] at q
    exact T6 ⟨Nat.zero_le _,fun z hz=>q z _ (s3.trans (Same.new hz)) (s3.free hz) A7⟩
   | false =>
    refine O4 (hN3 _ _ (B6 fun N4 hN4=>?_))
    have en3:=s3 _ _ en
    have f3:=u3 _ _ f1
    refine ex1 rfl ⟨nm,_,rfl,.inl (SqL.of en3),B7 rfl rfl ⟨(show (0:Int) < 2 by decide),⟨rfl,ex1 rfl ?_⟩⟩⟩
    rw [List.length_map]
    have lq:qs.length<=200:=okw.lenq
    by_cases c:li.length % 2 = 1
    ·
     rw [decide_eq_false (show ¬ V.int ((li.length:Int) % 2) = V.int 0 from fun z=>by have:=V.int.inj z; omega)]
     refine O4 (hN4 _ _ (B6 fun N5 hN5=>?_))
     unfold C9 at q
     unfold V4 at q
     rw [o7 (by rw [Bool.not_false,Bool.true_and]; exact c0) c,if_pos rfl,if_neg (by decide)] at q
     refine ex1 rfl ⟨st,rfl,⟨_,SqL.of hS3.at_⟩,fun D hD=>?_⟩
     refine Ki (fun k=>decide (k.1 ∈ evs li)) (fun k=>k.2) hS3.at_ hS3.pin hS3.len hD (fun r hr G sG Q' hQ'=>?_) (fun _=>rfl) (fun σ G sG eG=>?_) none none
     ·exact ex1 rfl (ex1 rfl (Z9 (.inl (SqL.of (sG _ _ f3))) ⟨_,rfl,hQ' G (Same.refl _)⟩))
     have s4:=s3.trans sG
     have hS4:=hS3.same sG
     have f4:=sG _ _ f3
     refine hN5 _ _ (B6 fun N6 hN6=>?_)
     refine ex1 rfl ⟨st,rfl,⟨_,SqL.of hS4.at_⟩,fun D2 hD2=>?_⟩
     refine Ki (fun k=>decide (k.2 ∈ evs li) && !decide (k.1 ∈ (((ps.map fun q=>q.2).filter fun k=>decide (k.1 ∈ evs li)).map fun k=>k.2))) (fun k=>k.1) hS4.at_ hS4.pin hS4.len hD2 (fun r hr G2 sG2 Q' hQ'=>?_) (fun _=>rfl) (fun σ G2 sG2 eG2=>?_) none none
     ·have hQ:=hQ' G2 (Same.refl _)
      refine ex1 rfl (ex1 rfl (Z9 (.inl (SqL.of (sG2 _ _ f4))) ⟨_,rfl,?_⟩))
      cases c1:decide (r.2.2 ∈ evs li) with
      | false =>
       rw [c1,Bool.false_and] at hQ
       exact O4 hQ
      | true =>
       rw [c1,Bool.true_and] at hQ
       exact T6 (ex1 rfl (ex1 rfl (J2 (.inl (SqL.of (sG2 _ _ eG))) ⟨_,rfl,hQ⟩)))
     have s5:=s4.trans sG2
     refine hN6 _ _ ?_
     refine ex1 rfl ⟨D2,_,rfl,.inl (SqL.of eG2),?_,fun w1 hw1=>?_⟩
     ·rw [List.length_map]
      have h:=List.length_filter_le (fun k=>decide (k.2 ∈ evs li) && !decide (k.1 ∈ (((ps.map fun q=>q.2).filter fun k=>decide (k.1 ∈ evs li)).map fun k=>k.2))) (ps.map fun q=>q.2)
      rw [List.length_map] at h
      have:=hS.len
      omega
     refine ⟨w1,_,rfl,A7,fun w2 ss' hw2 pm srt=>?_⟩
     have em:ss' = ns.filter (dbt qs (evs li)):=by
      refine zBp srt (okw.srt.filter _) (pm.nodup_iff.mpr (Ge List.nodup_nil)) (okw.nd.filter _) fun y=>?_
      rw [pm.mem_iff,Bl,List.mem_filter,Pa]
      constructor
      ·rintro (h | h)
       ·cases h
       obtain ⟨k,hk,rfl⟩:=List.mem_map.mp h
       obtain ⟨h1,h2⟩:=List.mem_filter.mp hk
       rw [Bool.and_eq_true,Bool.not_eq_true',decide_eq_true_iff,decide_eq_false_iff_not] at h2
       have hs:Ax qs k.1 k.2:=(Sk _ _).mpr h1
       refine ⟨Na okw.mem hs,⟨k.2,h2.1,hs⟩,fun ⟨m,hm,hz⟩=>h2.2 ?_⟩
       exact List.mem_map.mpr ⟨(m,k.1),List.mem_filter.mpr ⟨(Sk _ _).mp hz,decide_eq_true hm⟩,rfl⟩
      ·rintro ⟨_,⟨n,hn,hs⟩,hno⟩
       refine .inr (List.mem_map.mpr ⟨(y,n),List.mem_filter.mpr ⟨(Sk _ _).mp hs,?_⟩,rfl⟩)
       rw [Bool.and_eq_true,Bool.not_eq_true',decide_eq_true_iff,decide_eq_false_iff_not]
       refine ⟨hn,fun z=>hno ?_⟩
       obtain ⟨k,hk,e⟩:=List.mem_map.mp z
       obtain ⟨h1,h2⟩:=List.mem_filter.mp hk
       exact ⟨k.1,of_decide_eq_true h2,(Sk _ _).mpr (by rw [<-show k.2 = y from e]; exact h1)⟩
     rw [em] at *
     have u6:=(s5.trans (Same.new (o:=Bn w w1 _) hw1)).trans (Same.new (o:=.lst ((ns.filter (dbt qs (evs li))).map V.str)) hw2)
     exact q w2 _ u6 ((s5.trans (Same.new hw1)).free hw2) A7
    ·
     rw [decide_eq_true (show V.int ((li.length:Int) % 2) = V.int 0 by rw [show (li.length:Int) % 2 = 0 by omega])]
     refine T6 (B6 fun N5 hN5=>?_)
     unfold C9 at q
     unfold V8 at q
     rw [X5 (by omega),if_neg (by decide)] at q
     refine ⟨Nat.zero_le _,fun z6 hz6=>?_⟩
     have u4:=Same.new (o:=.lst []) hz6
     have f6:(upd H3 z6 (.lst [])) z6 = some (.lst []):=A7
     have s4:=s3.trans u4
     have fz:H z6 = none:=s3.free hz6
     have f4:=u4 _ _ f3
     generalize upd H3 z6 (.lst []) = H4 at u4 f6 s4 f4 ⊢
     refine hN5 _ _ (B6 fun N6 hN6=>?_)
     refine ex1 rfl (ex1 rfl ⟨st,J4 li,qs,ps,rfl,hS.same s4,fun a2 H5 s5 ha2 e5=>?_⟩)
     have n62:z6 ≠ a2:=A8 f6 ha2
     have f65:=s5 _ _ f6
     have s45:=s4.trans s5
     have f5:=s5 _ _ f4
     have n16:a1 ≠ z6:=A8 f3 hz6
     have ls:=K6 qs (J4 li)
     have lle:=Kk li
     refine ⟨a2,rfl,⟨_,SqL.of e5⟩,Ed (asL (SqL.of e5)) (fun i σ G=>(∃ v5 v7 v8 v9,σ = [some (.ref st),some (.ref nm),some (.bl false),some (.str (J4 li)),some (.ref a1),v5,some (.ref z6),v7,v8,v9])/\Sm [z6] H5 G/\G z6 = some (.lst ((((B3 qs (J4 li)).take i).filter fun n=>J1 qs (evs li ++ [n])).map V.str))) ⟨⟨_,_,_,_,rfl⟩,fun b o e _=>e,f65⟩ (fun i σ G _ h=>h.2.1.at (by simpa using n62.symm)) ?_ ?_⟩
     ·rintro i σ G v hv ⟨⟨v5,v7,v8,v9,rfl⟩,kG,eG⟩ D1 hD1 _
      rw [List.getElem?_map] at hv
      obtain ⟨y,hy,rfl⟩:=Option.map_eq_some_iff.mp hv
      have kk:∀ {b:Addr} {o:HO},H b = some o->G b = some o:=fun {b o} e=>kG _ _ (s45 _ _ e) (by simpa using A8 e fz)
      have e1:G a1 = some (.lst ((evs li).map V.str)):=kG _ _ f5 (by simpa using n16)
      refine Qp fun M1 hM1=>?_
      refine ex1 rfl (ex1 rfl ⟨by show 1<=sizeLine; decide,fun b hb=>?_⟩)
      have w1:=Same.new (o:=.lst [.str y]) hb
      refine ⟨a1,b,_,_,rfl,rfl,w1 _ _ e1,A7,by rw [List.length_map,sizeLine_eq]; show _ + 1<=_; omega,fun g hg=>?_⟩
      have w2:=w1.trans (Same.new (o:=.lst ((evs li).map V.str ++ [.str y])) hg)
      have fg:(upd (upd G b (.lst [.str y])) g (.lst ((evs li).map V.str ++ [.str y]))) g = some (.lst ((evs li ++ [y]).map V.str)):=by rw [A7,List.map_append]; rfl
      have eG2:=w2 _ _ eG
      generalize upd (upd G b (.lst [.str y])) g (.lst ((evs li).map V.str ++ [.str y])) = G2 at w2 fg eG2 ⊢
      have st2:G2 st = some (.lst (J9 ps)):=w2 _ _ (kk hS.at_)
      have pin2:∀ q ∈ ps,E6 G2 q:=fun q hq=>w2 _ _ (kk (hS.pin q hq))
      refine hM1 _ _ ?_
      refine ex1 rfl ⟨st,rfl,⟨_,SqL.of st2⟩,fun D hD=>?_⟩
      refine Q3 (asL (K:=K) (SqL.of st2)) (fun i σ H3=>(∃ v0,σ = [v0,some (.ref g)])/\Same G2 H3/\H3 D = some (.lst (((ps.take i).map (inB (evs li ++ [y]))).map V.bl))) ⟨⟨_,rfl⟩,Same.new hD,A7⟩ (fun i σ H1 _ ⟨_,s1,_⟩=>s1.at st) ?_ ?_
      ·rintro i2 σ H7 v N hx ⟨⟨v0,rfl⟩,s7,e7⟩ hN'
       unfold J9 at hx
       rw [List.getElem?_map] at hx
       obtain ⟨z,hz,rfl⟩:=Option.map_eq_some_iff.mp hx
       have pz:=s7 _ _ (pin2 z (List.mem_of_getElem? hz))
       have fg7:=s7 _ _ fg
       have hl:(((ps.take i2).map (inB (evs li ++ [y]))).map V.bl).length<=200:=by
        rw [List.length_map,List.length_map,List.length_take]
        have:=hS.len
        omega
       have fin:∃ ys,H7 D = some (.lst ys)/\ys.length < sizeLine/\N [some (.ref z.1),some (.ref g)] (upd H7 D (.lst (ys ++ [.bl (inB (evs li ++ [y]) z)]))):=by
        refine ⟨_,e7,by rw [sizeLine_eq]; omega,hN' _ _ ⟨⟨_,rfl⟩,s7.upd hD,?_⟩⟩
        rw [A7,E2 hz,List.map_append,List.map_append]
        rfl
       refine b8 ?_
       refine ex1 rfl ⟨z.1,_,B7 rfl rfl ⟨SqT.of pz,rfl,ex1 rfl (Z9 (.inl (SqL.of fg7)) ⟨_,rfl,?_⟩)⟩⟩
       unfold inB at fin
       cases c1:decide (z.2.1 ∈ evs li ++ [y]) with
       | false =>
        rw [c1,Bool.false_and] at fin
        exact O4 fin
       | true =>
        rw [c1,Bool.true_and] at fin
        exact T6 (ex1 rfl ⟨z.1,_,B7 rfl rfl ⟨SqT.of pz,rfl,ex1 rfl (Z9 (.inl (SqL.of fg7)) fin)⟩⟩)
      ·rintro σ H7 ⟨_,s7,e7⟩
       have el:(J9 ps).length = ps.length:=by unfold J9; rw [List.length_map]
       rw [el,List.take_length] at e7
       refine ⟨D,_,rfl,SqL.of e7,⟨_,rfl,?_⟩⟩
       have eq:((ps.map (inB (evs li ++ [y]))).any id) = !J1 qs (evs li ++ [y]):=by
        cases hq:J1 qs (evs li ++ [y]) with
        | true =>
         show _ = false
         rw [List.any_eq_false]
         intro b hb z
         obtain ⟨r,hr,rfl⟩:=List.mem_map.mp hb
         have z:inB (evs li ++ [y]) r = true:=z
         unfold inB at z
         rw [Bool.and_eq_true] at z
         exact quiet_iff.mp hq _ (of_decide_eq_true z.2) _ (of_decide_eq_true z.1) ((Sk _ _).mpr (List.mem_map.mpr ⟨r,hr,rfl⟩))
        | false =>
         show _ = true
         rw [List.any_eq_true]
         refine Classical.byContradiction fun hno=>?_
         have:J1 qs (evs li ++ [y]) = true:=quiet_iff.mpr fun n hn m hm z=>by
          obtain ⟨r,hr,e⟩:=List.mem_map.mp ((Sk _ _).mp z)
          have e1:r.2.1 = m:=congrArg Prod.fst e
          have e2:r.2.2 = n:=congrArg Prod.snd e
          exact hno ⟨_,List.mem_map.mpr ⟨r,hr,rfl⟩,by show inB _ r = true; unfold inB; rw [e1,e2,decide_eq_true hm,decide_eq_true hn]; rfl⟩
         rw [hq] at this
         cases this
       rw [eq]
       have s27:=w2.trans s7
       have e6:=s7 _ _ eG2
       have kE:Sm [z6] H5 H7:=kG.trans s27.sm
       have ts:((B3 qs (J4 li)).take (i + 1)).filter (fun n=>J1 qs (evs li ++ [n])) = ((B3 qs (J4 li)).take i).filter (fun n=>J1 qs (evs li ++ [n])) ++ if J1 qs (evs li ++ [y]) = true then [y] else []:=by
        rw [E2 hy,List.filter_append,List.filter_cons,List.filter_nil]
       cases hq:J1 qs (evs li ++ [y]) with
       | true =>
        rw [hq,if_pos rfl] at ts
        have hl:((((B3 qs (J4 li)).take i).filter fun n=>J1 qs (evs li ++ [n])).map V.str).length<=200:=by
         rw [List.length_map]
         have h:=List.length_filter_le (fun n=>J1 qs (evs li ++ [n])) ((B3 qs (J4 li)).take i)
         rw [List.length_take] at h
         omega
        refine T6 (ex1 rfl ⟨.inl ⟨rfl,_,SqL.of e6⟩,ex1 rfl ⟨z6,B7 rfl rfl ⟨e6,by rw [sizeLine_eq]; omega,?_⟩⟩⟩)
        refine hD1 _ _ ⟨⟨_,_,_,_,rfl⟩,fun b o e hb=>?_,?_⟩
        ·rw [B2 (by simpa using hb)]
         exact kE b o e hb
        ·rw [A7,ts,List.map_append]
         rfl
       | false =>
        rw [hq,if_neg (by decide),List.append_nil] at ts
        exact O4 (hD1 _ _ ⟨⟨_,_,_,_,rfl⟩,kE,by rw [ts]; exact e6⟩)
     ·rintro σ G ⟨⟨v5,v7,v8,v9,rfl⟩,kG,eG⟩
      rw [List.length_map,List.take_length] at eG
      refine hN6 _ _ ?_
      exact ⟨_,rfl,q z6 G (fun b o e=>kG _ _ (s45 _ _ e) (by simpa using A8 e fz)) fz eG⟩
end
end Sw
namespace Sw
open PySem L2
section
variable {P:Program} {w:World} {K:PySem.W.Frag} {mg:Str->Option Value} {base:Heap}
theorem An:FnScope ["_law_strikes_here", "_law_named", "_law_firm"] ["_law_strikes_here", "_law_named", "_law_firm"] (B5 s_law_turn):=⟨rfl,rfl,rfl,by decide +kernel,rfl,by decide +kernel,by decide +kernel⟩
noncomputable def Jp:Sp:=fun vs H Q _=>∃ f st nm ns qs ps li,vs = [.ref st,.ref nm,.bl f]/\SP H st qs ps/\WebOk ns qs/\(∀ y ∈ ns,M7 y = true)/\H nm = some (.lst (li.map V.str))/\li ≠ []/\(∀ n ∈ li,n ∈ ns)/\∀ H',Same H H'->Q (.str (K4 f qs li)) H'
theorem Hz (T:Tx K mg):FnOk P w K mg base CX0 1 T.law_turn.f T.law_turn.fd ["_law_strikes_here", "_law_named", "_law_firm"] Jp:=by
 have sc:=An
 refine T.law_turn.F.ok An (fun vs H Q E h=>?_) (fun cdv A outer s H vs Q E hr h=>?_)
 ·obtain ⟨f,st,nm,ns,qs,ps,li,rfl,_⟩:=h
  rfl
 ·obtain ⟨f,st,nm,ns,qs,ps,li,rfl,hS,okw,hN,en,hne,hmem,q⟩:=h
  refine ⟨_,(B0 (I0 (PW.pt (X0 (U5 (M0 (pv 2))) (V3 (B9 (Xz K hr.units) (T0 (A6 (E3 (ixL K) (pv 1) B4 (fun _ _=>rfl)) (A6 (E3 (ixL K) (pv 1) B4 (fun _ _=>rfl)) A9))) (pv 0) rfl)))) (B1 (C0 D9)) C1)
   (B1 (C0 (E3 (ixL K) (G8 (A6 D9 (A6 D9 A9))) (K0 b9 (D0 (O7 K) T.b_len O3 (A6 (pv 1) A9)) B4) (fun _ _=>rfl))))),?_⟩
  have Sk:∀ a b,Ax qs a b ↔ (a,b) ∈ ps.map fun q=>q.2:=fun a b=>by
   rw [<-hS.kq.mem_iff]
   unfold Ax
   rw [List.mem_map]
   exact ⟨fun ⟨q,h,h1,h2⟩=>⟨q,h,Prod.ext h1 h2⟩,fun ⟨q,h,e⟩=>⟨q,h,congrArg Prod.fst e,congrArg Prod.snd e⟩⟩
  have oks:∀ q ∈ ps,PySem.PyData.strOk q.2.1 = true/\PySem.PyData.strOk q.2.2 = true:=fun q hq=>by
   obtain ⟨r,hr,e⟩:=List.mem_map.mp (hS.kq.mem_iff.mpr (List.mem_map.mpr ⟨q,hq,rfl⟩))
   have:=okw.mem r hr
   rw [e] at this
   exact ⟨K9 (hN _ this.1),K9 (hN _ this.2)⟩
  have h0:atI (li.map V.str) ((0:Nat):Int) = some (.str (G0 li)):=Q8 (by rw [List.getElem?_map,Dj hne]; rfl)
  have oh:=K9 (hN _ (hmem _ (Ei hne)))
  cases f with
  | true =>
   refine ex1 rfl ⟨_,rfl,O4 (O4 ?_)⟩
   refine ⟨by show 2<=sizeLine; decide,fun a ha=>?_⟩
   have u1:=(Same.new (o:=.lst [.str "asker",.str "doubter"]) ha)
   refine ex1 rfl ⟨nm,_,rfl,.inl (SqL.of (u1 _ _ en)),B7 rfl rfl ⟨(show (0:Int) < 2 by decide),?_⟩⟩
   rw [List.length_map]
   have hq:=q _ u1
   by_cases c:li.length % 2 = 1
   ·rw [o7 rfl c] at hq
    exact ⟨a,_,B7 rfl rfl ⟨SqL.of A7,by rw [show (li.length:Int) % 2 = ((1:Nat):Int) by omega]; rfl,hq⟩⟩
   ·rw [X5 (by omega)] at hq
    exact ⟨a,_,B7 rfl rfl ⟨SqL.of A7,by rw [show (li.length:Int) % 2 = ((0:Nat):Int) by omega]; rfl,hq⟩⟩
  | false =>
   refine ex1 rfl ⟨_,rfl,T6 ?_⟩
   refine ex1 rfl ⟨nm,_,B7 rfl rfl ⟨SqL.of en,h0,ex1 rfl ⟨nm,_,B7 rfl rfl ⟨SqL.of en,h0,⟨by show 2<=sizeLine; decide,fun t2 ht2=>?_⟩⟩⟩⟩⟩
   have u3:=Same.new (o:=.tup [.str (G0 li),.str (G0 li)]) ht2
   have g3:(upd H t2 (.tup [.str (G0 li),.str (G0 li)])) t2 = some (.tup [.str (G0 li),.str (G0 li)]):=A7
   generalize upd H t2 (.tup [.str (G0 li),.str (G0 li)]) = H3 at u3 g3 ⊢
   have hS3:=hS.same u3
   refine ex1 rfl (Pc (k:=(G0 li,G0 li)) g3 hS3.at_ hS3.pin ⟨oh,oh⟩ oks ⟨_,rfl,?_⟩)
   have eu:decide ((G0 li,G0 li) ∈ ps.map fun q=>q.2) = unq qs li:=by
    unfold unq
    exact decide_eq_decide.mpr (Sk _ _).symm
   rw [eu]
   cases c0:unq qs li with
   | true =>
    have hq:=q _ u3
    rw [Su c0] at hq
    exact T6 hq
   | false =>
    refine O4 ?_
    refine ⟨by show 2<=sizeLine; decide,fun a ha=>?_⟩
    have u1:=u3.trans (Same.new (o:=.lst [.str "asker",.str "doubter"]) ha)
    refine ex1 rfl ⟨nm,_,rfl,.inl (SqL.of (u1 _ _ en)),B7 rfl rfl ⟨(show (0:Int) < 2 by decide),?_⟩⟩
    rw [List.length_map]
    have hq:=q _ u1
    by_cases c:li.length % 2 = 1
    ·rw [o7 (by rw [Bool.not_false,Bool.true_and]; exact c0) c] at hq
     exact ⟨a,_,B7 rfl rfl ⟨SqL.of A7,by rw [show (li.length:Int) % 2 = ((1:Nat):Int) by omega]; rfl,hq⟩⟩
    ·rw [X5 (by omega)] at hq
     exact ⟨a,_,B7 rfl rfl ⟨SqL.of A7,by rw [show (li.length:Int) % 2 = ((0:Nat):Int) by omega]; rfl,hq⟩⟩
end
end Sw
namespace Sw
open PySem L2
theorem Jq {S:Sp} {H:Hp} {l m:Addr} {ss:List Str} (h:H l = some (.lst (ss.map V.str))) (h':H m = some (.lst (ss.map V.str))) (ok:∀ x ∈ ss,PySem.PyData.strOk x = true) (len:ss.length<=200) {Q:VK} {E:XK} (q:∀ H',Same H H'->Q (.bl true) H'):Y3 (Y3 S) [.ref l,.ref m] H Q E:=by
 refine .inr (.inr ⟨l,m,true,ss.map V.str,ss.map V.str,rfl,h,h',rfl,by rw [List.length_map]; exact len,fun i x y H' Q' E hx hy s hq=>?_,q⟩)
 cases Option.some.inj (hx.symm.trans hy)
 rw [List.getElem?_map] at hx
 obtain ⟨a,ha,rfl⟩:=Option.map_eq_some_iff.mp hx
 exact .inl ⟨a,rfl,ok a (List.mem_of_getElem? ha),hq⟩
section
variable {P:Program} {w:World} {K:PySem.W.Frag} {mg:Str->Option Value} {base:Heap}
theorem Oy {f:Bool} {ns:List Str} {qs:List PA2} {li:List Str} (h:C9 f ns qs li = []):(K4 f qs li = "doubter"/\Hb f ns qs li = .str "asker")\/(K4 f qs li = "asker"/\Hb f ns qs li = .str "doubter"):=by
 unfold Hb
 rw [if_pos h]
 rcases T5 f qs li with c | c
 ·exact .inl ⟨c,by rw [if_pos c]⟩
 ·exact .inr ⟨c,by rw [if_neg (by rw [c]; decide)]⟩
theorem Jm {f:Bool} {ns:List Str} {qs:List PA2} {li:List Str} (h:C9 f ns qs li ≠ []):Hb f ns qs li = .non:=by
 unfold Hb
 rw [if_neg h]
theorem P8:FnScope ["_law_dispute", "_law_strikes_here", "_law_named", "_law_firm", "_law_moves_here", "_law_turn_here", "_law_winner", "_law_found"] ["_law_dispute", "_law_strikes_here", "_law_named", "_law_firm"] (B5 s_law_looks_right):=⟨rfl,rfl,rfl,by decide +kernel,rfl,by decide +kernel,by decide +kernel⟩
noncomputable def Jk (CD CW:Addr):Sp:=fun vs H Q _=>∃ f d st nm x l ns qs ps li,vs = [.ref d,.ref st,.ref nm,.bl f]/\DAt CD CW H d x l ns qs (kdS f) li/\SP H st qs ps/\H nm = some (.lst (li.map V.str))/\(∀ y ∈ ns,M7 y = true)/\∀ H',Same H H'->Q (.bl true) H'
set_option maxHeartbeats 2000000 in
theorem V6 (T:Tx K mg):FnOk P w K mg base CX0 9 T.law_looks_right.f T.law_looks_right.fd ["_law_dispute", "_law_strikes_here", "_law_named", "_law_firm"] (Jk T.CDp T.CWeb):=by
 have G_law_moves:FnOk P w K mg base CX0 2 T.law_moves.f T.law_moves.fd ["_law_strikes_here", "_law_named", "_law_firm"] Ab:=d6 T
 have G_law_turn:FnOk P w K mg base CX0 1 T.law_turn.f T.law_turn.fd ["_law_strikes_here", "_law_named", "_law_firm"] Jp:=Hz T
 have G_Dp_turn:FnOk P w K mg base CX0 6 T.mDp_turn.f T.mDp_turn.fd ["self"] (Dp T.CDp T.CWeb):=Y7 T
 have G_Dp_moves:FnOk P w K mg base CX0 7 T.mDp_moves.f T.mDp_moves.fd ["self"] (o8 T.CDp T.CWeb):=U7 T
 have G_Dp_named:FnOk P w K mg base CX0 1 T.mDp_named.f T.mDp_named.fd ["self"] (Ir T.CDp T.CWeb):=Ht T
 have G_Dp_winner:FnOk P w K mg base CX0 8 T.mDp_winner.f T.mDp_winner.fd ["self"] (Gw T.CDp T.CWeb):=Fe T
 have G_law_same:FnOk P w K mg base CX0 3 T.law_same.f T.law_same.fd ["_law_found", "_law_due"] (Y3 (Y3 (Y3 Av))):=S4 T (S4 T (S4 T Cm))
 have sc:=P8
 refine T.law_looks_right.F.ok P8 (fun vs H Q E h=>?_) (fun cdv A outer s H vs Q E hr h=>?_)
 ·obtain ⟨f,d,st,nm,x,l,ns,qs,ps,li,rfl,_⟩:=h
  rfl
 ·obtain ⟨f,d,st,nm,x,l,ns,qs,ps,li,rfl,hD,hS,en,hN,q⟩:=h
  obtain ⟨dd,e⟩:=hD.ins
  have okw:=hD.W.ok
  refine ⟨_,(B0 (C5 (i:=4) sc.nd rfl (by first | exact Or.inl rfl | exact Or.inr rfl) (E4 T.law_moves G_law_moves (hr.mono (by decide)) (@A6 _ _ _ _ _ (pv 1) (@A6 _ _ _ _ _ (pv 2) (@A6 _ _ _ _ _ (pv 3) A9 (by rfl)) (by rfl)) (by rfl))))
   (B0 (C5 (i:=5) sc.nd rfl (by first | exact Or.inl rfl | exact Or.inr rfl) (E4 T.law_turn G_law_turn (hr.mono (by decide)) (@A6 _ _ _ _ _ (pv 1) (@A6 _ _ _ _ _ (pv 2) (@A6 _ _ _ _ _ (pv 3) A9 (by rfl)) (by rfl)) (by rfl))))
   (B0 (C5 (i:=6) sc.nd rfl (by first | exact Or.inl rfl | exact Or.inr rfl) Qb)
   (B0 (I0 (B9 (Tc K hr.units) (pv 4) (G8 A9) (C8 _)) (B1 (C5 (i:=6) sc.nd rfl (by first | exact Or.inl rfl | exact Or.inr rfl) (E3 (ixL K) (G8 (A6 D9 (A6 D9 A9))) (Dw y9 T.b_int Ji (A6 (I9 Q7 (pv 5) D9 (C8 _)) A9)) (fun _ _=>rfl)))) C1)
   (@B0 _ _ _ _ _ (@C5 _ _ 7 _ _ _ _ sc.nd rfl (by first | exact Or.inl rfl | exact Or.inr rfl) (@G8 _ _ _ _ (@A6 _ _ _ _ _ (C6 (pv 0) T.clDp T.mDp_turn.m G_Dp_turn (hr.mono (by decide)) T.mDp_turn.b .nil F0) (@A6 _ _ _ _ _ (C6 (pv 0) T.clDp T.mDp_moves.m G_Dp_moves (hr.mono (by decide)) T.mDp_moves.b .nil F0) (@A6 _ _ _ _ _ (C6 (pv 0) T.clDp T.mDp_named.m G_Dp_named (hr.mono (by decide)) T.mDp_named.b .nil F0) (@A6 _ _ _ _ _ (C6 (pv 0) T.clDp T.mDp_winner.m G_Dp_winner (hr.mono (by decide)) T.mDp_winner.b .nil F0) A9 (by rfl)) (by rfl)) (by rfl)) (by rfl))) (by rfl) (by first | exact .inl rfl | exact .inr rfl | assumption))
   (@B0 _ _ _ _ _ (@I0 _ _ _ _ _ _ _ _ (U5 (M0 (E4 T.law_same G_law_same (hr.mono (by decide)) (@A6 _ _ _ _ _ (pv 7) (@A6 _ _ _ _ _ (@G8 _ _ _ _ (@A6 _ _ _ _ _ (pv 5) (@A6 _ _ _ _ _ (pv 4) (@A6 _ _ _ _ _ (pv 2) (@A6 _ _ _ _ _ (pv 6) A9 (by rfl)) (by rfl)) (by rfl)) (by rfl))) A9 (by rfl)) (by rfl))))) (B1 (C0 Gr)) C1)
   (B0 (C7 (Iy K PySem.F.plainAttrs_list PySem.F.slot_list_append PySem.F.type_list_append E8 (C6 (pv 0) T.clDp T.mDp_moves.m G_Dp_moves (hr.mono (by decide)) T.mDp_moves.b .nil F0) (A6 D9 A9)))
   (B0 (C7 (Sy K PySem.F.plainAttrs_list PySem.F.slot_list_clear PySem.F.type_list_clear Ix (C6 (pv 0) T.clDp T.mDp_named.m G_Dp_named (hr.mono (by decide)) T.mDp_named.b .nil F0)))
   (B1 (C0 Gr)))))))))),?_⟩
  have okm:∀ y ∈ C9 f ns qs li,M7 y = true:=fun y hy=>hN y (Ef okw.mem hy)
  have lm:(C9 f ns qs li).length<=200:=Jw okw li
  refine B6 fun N1 hN1=>?_
  refine ex1 rfl (ex1 rfl (ex1 rfl ⟨f,st,nm,ns,qs,ps,li,rfl,hS,okw,hN,en,hD.ne,hD.mem,hD.len,fun m2 H1 s1 hm2 em2=>?_⟩))
  refine hN1 _ _ (B6 fun N2 hN2=>?_)
  refine ex1 rfl (ex1 rfl (ex1 rfl ⟨f,st,nm,ns,qs,ps,li,rfl,hS.same s1,okw,hN,s1 _ _ en,hD.ne,hD.mem,fun H2 s2=>?_⟩))
  have s12:=s1.trans s2
  have em2:=s2 _ _ em2
  refine hN2 _ _ (B6 fun N3 hN3=>?_)
  refine hN3 _ _ (B6 fun N4 hN4=>?_)
  have tail:∀ G:Hp,Same H2 G->N4 [some (.ref d),some (.ref st),some (.ref nm),some (.bl f),some (.ref m2),some (.str (K4 f qs li)),some (Hb f ns qs li),none] G:=fun G sG=>by
   have s0:=s12.trans sG
   have em:=sG _ _ em2
   have hD0:=hD.same s0
   have e0:=s0 _ _ e
   refine hN4 _ _ (B6 fun N5 hN5=>?_)
   refine ex1 rfl ⟨d,dd,_,rfl,e0,rfl,f,d,x,l,ns,qs,li,rfl,hD0,fun Ga ta=>?_⟩
   have s0:=s0.trans ta
   have em:=ta _ _ em
   have hD0:=hD0.same ta
   have e0:=ta _ _ e0
   refine ex1 rfl ⟨d,dd,_,rfl,e0,rfl,f,d,x,l,ns,qs,li,rfl,hD0,fun m1 G1 t1 hm1 em1=>?_⟩
   have e1:=t1 _ _ e0
   refine ex1 rfl ⟨d,dd,_,rfl,e1,rfl,f,d,x,l,ns,qs,li,rfl,hD0.same t1,fun n1 hn1=>?_⟩
   have t2:=t1.trans (Same.new (o:=.lst (li.map V.str)) hn1)
   have fn1:(upd G1 n1 (.lst (li.map V.str))) n1 = some (.lst (li.map V.str)):=A7
   have em1:=Same.new (o:=.lst (li.map V.str)) hn1 _ _ em1
   generalize upd G1 n1 (.lst (li.map V.str)) = G2 at t2 fn1 em1 ⊢
   refine ex1 rfl ⟨d,dd,_,rfl,t2 _ _ e0,rfl,f,d,x,l,ns,qs,li,rfl,hD0.same t2,fun G3 t3=>?_⟩
   refine ⟨by show 4<=sizeLine; decide,fun l1 hl1=>?_⟩
   have u4:=Same.new (o:=.lst [.str (K4 f qs li),.ref m1,.ref n1,Hb f ns qs li]) hl1
   have f4:(upd G3 l1 (.lst [.str (K4 f qs li),.ref m1,.ref n1,Hb f ns qs li])) l1 = some (.lst [.str (K4 f qs li),.ref m1,.ref n1,Hb f ns qs li]):=A7
   have t4:=(t2.trans t3).trans u4
   have em1:=u4 _ _ (t3 _ _ em1)
   have fn1:=u4 _ _ (t3 _ _ fn1)
   generalize upd G3 l1 (.lst [.str (K4 f qs li),.ref m1,.ref n1,Hb f ns qs li]) = G4 at t4 f4 em1 fn1 ⊢
   refine hN5 _ _ (B6 fun N6 hN6=>?_)
   refine ex1 rfl (ex1 rfl (ex1 rfl (ex1 rfl (ex1 rfl ⟨by show 4<=sizeLine; decide,fun l2 hl2=>?_⟩))))
   have u5:=Same.new (o:=.lst [.str (K4 f qs li),.ref m2,.ref nm,Hb f ns qs li]) hl2
   have f5:(upd G4 l2 (.lst [.str (K4 f qs li),.ref m2,.ref nm,Hb f ns qs li])) l2 = some (.lst [.str (K4 f qs li),.ref m2,.ref nm,Hb f ns qs li]):=A7
   have t5:=t4.trans u5
   have f4:=u5 _ _ f4
   have em1:=u5 _ _ em1
   have fn1:=u5 _ _ fn1
   generalize upd G4 l2 (.lst [.str (K4 f qs li),.ref m2,.ref nm,Hb f ns qs li]) = G5 at t5 f4 f5 em1 fn1 ⊢
   have em5:=t5 _ _ em
   have en5:=t5 _ _ (s0 _ _ en)
   refine .inr (.inr ⟨l1,l2,true,_,_,rfl,f4,f5,rfl,by show 4<=200; decide,fun i y z G' Q' E' hy hz sG' hq=>?_,fun G6 t6=>?_⟩)
   ·match i,hy,hz with
    | 0,hy,hz =>
     cases hy; cases hz
     exact .inl ⟨K4 f qs li,rfl,by rcases T5 f qs li with c | c <;> rw [c] <;> decide +kernel,hq⟩
    | 1,hy,hz =>
     cases hy; cases hz
     exact Jq (sG' _ _ em1) (sG' _ _ em5) (fun y hy=>K9 (okm y hy)) lm hq
    | 2,hy,hz =>
     cases hy; cases hz
     exact Jq (sG' _ _ fn1) (sG' _ _ en5) (fun y hy=>K9 (hN y (hD.mem y hy))) (by have:=hD.len; omega) hq
    | 3,hy,hz =>
     cases hy; cases hz
     by_cases c:C9 f ns qs li = []
     ·rcases Oy c with ⟨_,w⟩ | ⟨_,w⟩
      ·rw [w]; exact .inl ⟨"asker",rfl,by decide +kernel,hq⟩
      ·rw [w]; exact .inl ⟨"doubter",rfl,by decide +kernel,hq⟩
     ·rw [Jm c]
      exact .inr (.inl ⟨.non,rfl,.inl rfl,hq⟩)
    | n + 4,hy,hz=>cases hy
   refine ⟨_,rfl,O4 ?_⟩
   have s6:=(s0.trans t5).trans t6
   have hD6:=hD.same s6
   refine hN6 _ _ (B6 fun N7 hN7=>?_)
   refine ex1 rfl ⟨d,dd,_,rfl,s6 _ _ e,rfl,f,d,x,l,ns,qs,li,rfl,hD6,fun m3 G7 t7 hm3 em3=>?_⟩
   refine ⟨.inl ⟨rfl,_,SqL.of em3⟩,⟨m3,B7 rfl rfl ⟨em3,by rw [List.length_map,sizeLine_eq]; omega,?_⟩⟩⟩
   have s8:Same H (upd G7 m3 (.lst ((C9 f ns qs li).map V.str ++ [.str "zz"]))):=(s6.trans t7).upd (s6.free hm3)
   have hD8:=hD.same s8
   refine hN7 _ _ (B6 fun N8 hN8=>?_)
   refine ex1 rfl ⟨d,dd,_,rfl,s8 _ _ e,rfl,f,d,x,l,ns,qs,li,rfl,hD8,fun n3 hn3=>?_⟩
   refine ⟨.inl ⟨rfl,_,SqL.of A7⟩,n3,_,rfl,rfl,A7,?_⟩
   rw [r8]
   exact hN8 _ _ (q _ (s8.trans (Same.new hn3)))
  refine ex1 rfl ⟨Nat.zero_le _,fun z hz=>?_⟩
  have u3:=Same.new (o:=.lst []) hz
  refine ⟨sd (C9 f ns qs li),.list [],Mp (SqL.of (u3 _ _ em2)),?_,Nt okm,⟨rfl,by simp [PyData.depth,PyData.depthAll]⟩,ex1 rfl ?_⟩
  ·simp only [Rp,Rps]
   exact ⟨z,_,rfl,SqL.of A7,rfl⟩
  by_cases c:C9 f ns qs li = []
  ·rw [show PyData.eqv (sd (C9 f ns qs li)) (.list []) = true by rw [c]; rfl]
   refine T6 ⟨by show 2<=sizeLine; decide,fun a ha=>?_⟩
   have u4:=u3.trans (Same.new (o:=.lst [.str "asker",.str "doubter"]) ha)
   refine ex1 rfl ⟨rfl,.inr ⟨_,rfl,?_⟩⟩
   rcases Oy c with ⟨t,w⟩ | ⟨t,w⟩
   ·rw [t]
    refine ⟨a,_,B7 rfl rfl ⟨SqL.of A7,rfl,?_⟩⟩
    have:=tail _ u4
    rw [w,t] at this
    exact this
   ·rw [t]
    refine ⟨a,_,B7 rfl rfl ⟨SqL.of A7,rfl,?_⟩⟩
    have:=tail _ u4
    rw [w,t] at this
    exact this
  ·have e0:PyData.eqv (sd (C9 f ns qs li)) (.list []) = false:=by
    unfold sd
    cases hm:C9 f ns qs li with
    | nil=>exact absurd hm c
    | cons y r=>rw [List.map_cons]; simp [PyData.eqv,PyData.eqvAll]
   rw [e0]
   have:=tail _ u3
   rw [Jm c] at this
   exact O4 this
end
end Sw
namespace Sw
open PySem L2
section
variable {P:Program} {w:World} {K:PySem.W.Frag} {mg:Str->Option Value} {base:Heap}
noncomputable def Ua (C:Addr) (H:Hp) (E:XK):Prop:=∀ H' x,Same H H'->H x = none->H' x = some (XO x C none)->E (.ref C) none H'
noncomputable def W8 (C B:Addr):Sp:=fun vs H _ E=>∃ (x:Addr) (n:Str) (ns:List Str) (qs:List PA2),vs = [.ref x,.str n]/\WebAt C H x ns qs/\n ∉ ns/\Ua B H E
theorem Y1 (T:Tx K mg):FnOk P w K mg base (CXe P w) 1 T.mWeb_check_has.f T.mWeb_check_has.fd ["self", "name"] (W8 T.CWeb T.CNoName):=by
 have sc:=N9
 refine T.mWeb_check_has.F.okE N9 (fun vs H Q E h=>?_) (fun cdv A outer s H vs Q E hr h=>?_)
 ·obtain ⟨x,n,ns,qs,rfl,_⟩:=h
  rfl
 ·obtain ⟨x,n,ns,qs,rfl,⟨ok,dx,a,b,c,d,kc,kd,e1,e2,e3,e4,e5,e6,e7,e8⟩,hn,k⟩:=h
  refine ⟨_,(B1 (I0 (B9 (P4 K) (pv 1) (peF K (pv 0)) rfl) (B1 (Po cxE.bx T.xcNoName T.niNoName rfl T.mgNoName (A6 D9 A9))) C1)),?_⟩
  refine ex1 rfl (ex1 rfl ⟨x,T.CWeb,dx,_,ex1 rfl ⟨e1,T.clWeb,T.nWeb_names,rfl,J2 (.inl (SqL.of e2)) ⟨_,rfl,?_⟩⟩⟩)
  rw [decide_eq_false hn]
  exact T6 ⟨by show 1<=sizeLine; decide,fun y hy=>k _ y (Same.new hy) hy A7⟩
noncomputable def Fd (CW B:Addr):Sp:=fun vs H _ E=>∃ d x n kd ns qs,vs = [.ref d,.ref x,.str n,.str kd]/\WebAt CW H x ns qs/\n ∉ ns/\Ua B H E
theorem Hi (T:Tx K mg):FnOk P w K mg base (CXe P w) 4 T.fDp___init__ T.fdDp___init__ ["self", "web", "name", "kind"] (Fd T.CWeb T.CNoName):=by
 have G_Web_check_has:FnOk P w K mg base (CXe P w) 1 T.mWeb_check_has.f T.mWeb_check_has.fd ["self", "name"] (W8 T.CWeb T.CNoName):=Y1 T
 have G_Web___init__:FnOk P w K mg base CX0 0 T.fWeb___init__ T.fdWeb___init__ ["self", "names", "strikes"] Av:=Cm
 have G_Web_all_names:FnOk P w K mg base CX0 0 T.mWeb_all_names.f T.mWeb_all_names.fd ["self"] Av:=Cm
 have G_Web_all_strikes:FnOk P w K mg base CX0 0 T.mWeb_all_strikes.f T.mWeb_all_strikes.fd ["self"] Av:=Cm
 have sc:=K8
 refine T.FDp___init__.okE K8 (fun vs H Q E h=>?_) (fun cdv A outer s H vs Q E hr h=>?_)
 ·obtain ⟨d,x,n,kd,ns,qs,rfl,_⟩:=h
  rfl
 ·obtain ⟨d,x,n,kd,ns,qs,rfl,W,hn,k⟩:=h
  obtain ⟨ok,dw,a1,b,c,d',kc,kd',e2,_⟩:=id W
  refine ⟨_,(B0 (C7 (P0 (pv 1) T.clWeb T.mWeb_check_has.m G_Web_check_has (hr.mono (by decide)) T.mWeb_check_has.b .nil cxE.bx.passes (A6 (pv 2) A9)))
   (B0 (psF K (pv 0) (Cw T.mkWeb G_Web___init__ (hr.mono (by decide)) rfl T.mgWeb T.bWeb___init__ .nil F0 (A6 (C6 (pv 1) T.clWeb T.mWeb_all_names.m G_Web_all_names (hr.mono (by decide)) T.mWeb_all_names.b .nil F0) (A6 (C6 (pv 1) T.clWeb T.mWeb_all_strikes.m G_Web_all_strikes (hr.mono (by decide)) T.mWeb_all_strikes.b .nil F0) A9))))
   (B0 (psF K (pv 0) (pv 3))
   (B1 (psF K (pv 0) (G8 (A6 (pv 2) A9))))))),?_⟩
  refine B6 fun N1 hN1=>?_
  exact ex1 rfl ⟨x,dw,ex1 rfl ⟨e2,rfl,ex1 rfl ⟨x,n,ns,qs,rfl,W,hn,k⟩⟩⟩
theorem U1:FnScope ["_law_web", "_law_name", "_law_kind", "_law_word", "error", "_law_others"] ["_law_web", "_law_name", "_law_kind"] (B5 s_law_refused):=⟨rfl,rfl,rfl,by decide +kernel,rfl,by decide +kernel,by decide +kernel⟩
noncomputable def Bx (CW:Addr):Sp:=fun vs H Q _=>∃ x n kd ns qs,vs = [.ref x,.str n,.str kd]/\WebAt CW H x ns qs/\n ∉ ns/\∀ H',Same H H'->Q (.str "no name") H'
set_option maxHeartbeats 1000000 in
theorem Ba (T:Tx K mg):FnOk P w K mg base CX0 6 T.law_refused.f T.law_refused.fd ["_law_web", "_law_name", "_law_kind"] (Bx T.CWeb):=by
 have G_Dp___init__:FnOk P w K mg base (CXe P w) 4 T.fDp___init__ T.fdDp___init__ ["self", "web", "name", "kind"] (Fd T.CWeb T.CNoName):=Hi T
 have sc:=U1
 refine T.law_refused.F.ok U1 (fun vs H Q E h=>?_) (fun cdv A outer s H vs Q E hr h=>?_)
 ·obtain ⟨x,n,kd,ns,qs,rfl,_⟩:=h
  rfl
 ·obtain ⟨x,n,kd,ns,qs,rfl,W,hn,q⟩:=h
  refine ⟨_,(B0 (C5 (i:=3) sc.nd rfl (by first | exact Or.inl rfl | exact Or.inr rfl) D9)
   (@B0 _ _ _ _ _ (Yd (i:=4) (fun _ _ z=>z) rfl rfl sc.nd rfl rfl rfl T.mgStrikeError T.xcStrikeError (Sr (fun _ _ z=>z) T.mkDp G_Dp___init__ (hr.mono (by decide)) rfl T.mgDp T.bDp___init__ (A6 (pv 0) (A6 (pv 1) (A6 (pv 2) A9))))
   (fun _=>(B0 (C5 (i:=3) sc.nd rfl (by first | exact Or.inl rfl | exact Or.inr rfl) D9)
   (@B0 _ _ _ _ _ (@C5 _ _ 5 _ _ _ _ sc.nd rfl (by first | exact Or.inl rfl | exact Or.inr rfl) (D0 (Lc K) T.b_isinstance B8 (A6 (pv 4) (A6 (T0 (A6 (Fv T.mgBadName) (A6 (Fv T.mgBadRow) (A6 (Fv T.mgBadStrike) (A6 (Fv T.mgBadWeave) (A6 (Fv T.mgNoMove) (A6 (Fv T.mgNoStrike) (A6 (Fv T.mgTooMany) A9)))))))) A9))) (by rfl) (by first | exact .inl rfl | exact .inr rfl | assumption))
   (B1 (I0 (PW.pt (X0 (M0 (D0 (Gp K) T.b_isinstance B8 (A6 (pv 4) (A6 (Fv T.mgNoName) A9)))) (X0 (M0 (D0 (Gp K) T.b_isinstance B8 (A6 (pv 4) (A6 (T7 T.b_ValueError Ck) A9)))) (V3 (U5 (M0 (pv 5))))))) (B1 (C5 (i:=3) sc.nd rfl (by first | exact Or.inl rfl | exact Or.inr rfl) D9)) C1))))))
   (B1 (C0 (pv 3))))),?_⟩
  refine B6 fun N1 hN1=>?_
  refine hN1 _ _ (B6 fun N2 hN2=>?_)
  refine ex1 rfl (ex1 rfl (ex1 rfl ?_))
  intro y dy ny ndy ney
  have s0:Same H (upd (upd H dy (.own y)) y (.ins T.CDp dy [])):=fun b o e=>by
   rw [B2 (A8 e ny),B2 (A8 e ndy)]
   exact e
  refine ⟨y,x,n,kd,ns,qs,rfl,W.same s0,hn,fun H' z s' hz ez=>⟨T.CNoName,T.bmNoName,rfl,T.xcNoName,T.upNoName_StrikeError,fun y' ey'=>?_⟩⟩
  refine B6 fun N3 hN3=>?_
  refine hN3 _ _ (B6 fun N4 hN4=>?_)
  refine ex1 rfl ⟨by show 7<=sizeLine; decide,fun p hp=>?_⟩
  have u6:=Same.new (o:=.tup ([T.CBadName,T.CBadRow,T.CBadStrike,T.CBadWeave,T.CNoMove,T.CNoStrike,T.CTooMany].map V.ref)) hp
  have ey6:=u6 _ _ ey'
  refine ⟨y',T.CNoName,p,[T.CBadName,T.CBadRow,T.CBadStrike,T.CBadWeave,T.CNoMove,T.CNoStrike,T.CTooMany],false,rfl,A7,ey6,T.xgNoName,T.isNoName,T.askNoName_0,?_⟩
  refine hN4 _ _ ?_
  refine ex1 rfl ⟨y',T.CNoName,_,_,true,rfl,rfl,ey6,T.xgNoName,T.isNoName,T.askNoName_1,⟨_,rfl,T6 ?_⟩⟩
  refine ex1 rfl ⟨y',T.CNoName,_,_,true,rfl,rfl,ey6,T.xgNoName,T.isNoName,T.askNoName_2,⟨_,rfl,T6 ?_⟩⟩
  refine ex1 rfl ⟨_,rfl,T6 ?_⟩
  exact hN2 _ _ ⟨_,rfl,q _ ((s0.trans s').trans u6)⟩
end
end Sw
namespace Sw
open PySem L2
noncomputable def erS (H:Hp) (Z:List Addr):Hp:=fun b=>if b ∈ Z then none else H b
theorem X6 {H:Hp} {Z:List Addr} {b:Addr} {o:HO} (e:erS H Z b = some o):b ∉ Z/\H b = some o:=by
 unfold erS at e
 by_cases h:b ∈ Z
 ·rw [if_pos h] at e; cases e
 ·rw [if_neg h] at e; exact ⟨h,e⟩
theorem Jl {H:Hp} {Z:List Addr} {b:Addr} {o:HO} (h:b ∉ Z) (e:H b = some o):erS H Z b = some o:=by
 unfold erS
 rw [if_neg h]
 exact e
theorem X2 {H H':Hp} {Z Z':List Addr} (k:∀ b o,b ∉ Z->H b = some o->b ∉ Z'/\H' b = some o):Same (erS H Z) (erS H' Z'):=fun b o e=>by
 obtain ⟨h1,h2⟩:=X6 e
 obtain ⟨h3,h4⟩:=k b o h1 h2
 exact Jl h3 h4
theorem Bg {H:Hp} {z b:Addr} {o:HO} (e:er H z b = some o):b ≠ z/\H b = some o:=by
 by_cases h:b = z
 ·unfold er at e; rw [if_pos h] at e; cases e
 ·rw [S3 h] at e; exact ⟨h,e⟩
theorem WebAt.erS1 {C:Addr} {H:Hp} {x z:Addr} {Z:List Addr} {ns:List Str} {qs:List PA2} (h:WebAt C (erS H Z) x ns qs) (h':WebAt C (er H z) x ns qs):WebAt C (erS H (z :: Z)) x ns qs:=by
 obtain ⟨ok,dx,a,b,c,d,kc,kd,e1,e2,e3,e4,e5,e6,e7,e8⟩:=h
 obtain ⟨_,dx',a',b',c',d',kc',kd',g1,g2,g3,g4,g5,g6,g7,g8⟩:=h'
 have i1:=(X6 e1).2
 have j1:=(Bg g1).2
 rw [i1] at j1
 cases j1
 have i5:=(X6 e5).2
 have j5:=(Bg g5).2
 rw [i5] at j5
 cases j5
 have i6:=(X6 e6).2
 have j6:=(Bg g6).2
 rw [i6] at j6
 cases j6
 have mk:∀ {b:Addr} {o o':HO},erS H Z b = some o->er H z b = some o'->erS H (z :: Z) b = some o:=fun {b o o'} e g=>by
  obtain ⟨h1,h2⟩:=X6 e
  exact Jl (fun q=>(List.mem_cons.mp q).elim (Bg g).1 h1) h2
 refine ⟨ok,dx,a,b,c,d,kc,kd,mk e1 g1,mk e2 g2,mk e3 g3,fun q hq=>mk (e4 q hq) (g4 q hq),mk e5 g5,mk e6 g6,fun n hn=>?_,fun n hn=>?_⟩
 ·obtain ⟨l,v,e⟩:=e7 n hn
  obtain ⟨l',v',g⟩:=g7 n hn
  rw [v] at v'
  cases v'
  exact ⟨l,v,mk e g⟩
 ·obtain ⟨l,v,e⟩:=e8 n hn
  obtain ⟨l',v',g⟩:=g8 n hn
  rw [v] at v'
  cases v'
  exact ⟨l,v,mk e g⟩
theorem WebAt.erSs {C:Addr} {H:Hp} {x:Addr} {ns:List Str} {qs:List PA2} {Z0:List Addr} (h:WebAt C (erS H Z0) x ns qs):∀ {Z:List Addr},(∀ z ∈ Z,WebAt C (er H z) x ns qs)->WebAt C (erS H (Z ++ Z0)) x ns qs
 | [],_=>h
 | z :: Z,k=>(WebAt.erSs h fun y hy=>k y (List.mem_cons_of_mem _ hy)).erS1 (k z (List.mem_cons_self ..))
structure Ent where
 o:Addr
 d:Addr
 x:Addr
 l:Addr
 nm:Addr
 st:Addr
 f:Bool
 ns:List Str
 qs:List PA2
 ps:List PA2
 li:List Str
structure EA (CD CW:Addr) (H:Hp) (Z:List Addr) (e:Ent):Prop where
 at_:H e.o = some (.lst [.ref e.d,.ref e.st,.ref e.nm,.bl e.f])
 ins:∃ dd,H e.d = some (.ins CD dd (df e.x e.l (kdS e.f)))
 lin:H e.l = some (.lst (e.li.map V.str))
 nam:H e.nm = some (.lst (e.li.map V.str))
 W:WebAt CW (erS H Z) e.x e.ns e.qs
 S:SP H e.st e.qs e.ps
 mem:∀ n ∈ e.li,n ∈ e.ns
 ne:e.li ≠ []
 nms:∀ y ∈ e.ns,M7 y = true
 zl:e.l ∈ Z
 zn:e.nm ∈ Z
 nl:e.l ≠ e.nm
section
variable {CD CW:Addr} {H H':Hp} {Z Z':List Addr} {e:Ent} {p:Addr} {c:Int}
theorem EA.D (h:EA CD CW H Z e) (len:e.li.length<=150):DAt CD CW H e.d e.x e.l e.ns e.qs (kdS e.f) e.li :=
 ⟨h.ins,h.lin,h.W.same fun b o q=>by
  obtain ⟨h1,h2⟩:=X6 q
  have nb:b ≠ e.l:=fun z=>h1 (by rw [z]; exact h.zl)
  rw [S3 nb]
  exact h2,h.mem,h.ne,len⟩
theorem EA.same (h:EA CD CW H Z e) (s:Same H H'):EA CD CW H' Z e :=
 ⟨s _ _ h.at_,let ⟨dd,q⟩:=h.ins; ⟨dd,s _ _ q⟩,s _ _ h.lin,s _ _ h.nam,h.W.same (X2 fun b o hb q=>⟨hb,s _ _ q⟩),h.S.same s,h.mem,h.ne,h.nms,h.zl,h.zn,h.nl⟩
theorem EA.more (h:EA CD CW H Z e) (k:∀ z ∈ Z',z ∈ Z\/H z = none) (k':∀ z ∈ Z,z ∈ Z'):EA CD CW H Z' e :=
 ⟨h.at_,h.ins,h.lin,h.nam,h.W.same (X2 fun b o hb q=>⟨fun z=>(k b z).elim hb (fun n=>absurd (n.symm.trans q) (by intro y; cases y)),q⟩),h.S,h.mem,h.ne,h.nms,k' _ h.zl,k' _ h.zn,h.nl⟩
theorem Hr {rs:List Str} {v:V} {xs:List V} (hv:∀ y,v ≠ .str y):rs.map V.str ≠ v :: xs:=fun z=>by
 cases rs with
 | nil=>cases z
 | cons y r=>exact hv y (List.head_eq_of_cons_eq z).symm
theorem Nz {rs:List Str} (hr:rs ≠ []) {ps:List PA2}:rs.map V.str ≠ J9 ps:=fun z=>by
 cases rs with
 | nil=>exact hr rfl
 | cons y r =>
  cases ps with
  | nil=>cases z
  | cons q r'=>have:=List.head_eq_of_cons_eq z; cases this
theorem EA.keep (h:EA CD CW H Z e) {Y:List Addr} (hY:∀ y ∈ Y,y ∈ Z/\∃ rs:List Str,rs ≠ []/\H y = some (.lst (rs.map V.str))) (nl:e.l ∉ Y) (nn:e.nm ∉ Y) (k:∀ b o,b ∉ Y->H b = some o->H' b = some o):EA CD CW H' Z e:=by
 have out:∀ {b:Addr} {o:HO},H b = some o->(∀ rs:List Str,rs ≠ []->o ≠ .lst (rs.map V.str))->b ∉ Y:=fun {b o} q n z=>by
  obtain ⟨_,rs,hr,e⟩:=hY b z
  rw [q] at e
  exact n rs hr (Option.some.inj e)
 refine ⟨k _ _ (out h.at_ fun rs _ z=>Hr (by intro y z; cases z) (HO.lst.inj z).symm) h.at_,?_,k _ _ nl h.lin,k _ _ nn h.nam,h.W.same (X2 fun b o hb q=>⟨hb,k b o (fun z=>hb (hY b z).1) q⟩),⟨k _ _ (out h.S.at_ fun rs hr z=>Nz hr (HO.lst.inj z).symm) h.S.at_,fun q hq=>k _ _ (out (h.S.pin q hq) fun rs _ z=>by cases z) (h.S.pin q hq),h.S.so,h.S.kq,h.S.len⟩,h.mem,h.ne,h.nms,h.zl,h.zn,h.nl⟩
 obtain ⟨dd,q⟩:=h.ins
 exact ⟨dd,k _ _ (out q fun rs _ z=>by cases z) q⟩
theorem EA.sm (h:EA CD CW H Z e) (L:LeftAt H p c) (k:Sm [p] H H'):EA CD CW H' Z e:=by
 obtain ⟨y,z,e0,_⟩:=id L
 have k1:∀ {b:Addr} {o:HO},H b = some o->(∀ u v w,o ≠ .lst [.int u,.int v,.int w])->H' b = some o:=fun e n=>Sm1 k e (M8 e e0 (n _ _ _))
 have ks:∀ {b:Addr} {rs:List Str},H b = some (.lst (rs.map V.str))->H' b = some (.lst (rs.map V.str)):=fun e=>Sm1 k e (L.ne e)
 obtain ⟨dd,q⟩:=h.ins
 refine ⟨k1 h.at_ (by intro _ _ _ z; cases z),⟨dd,k1 q (by intro _ _ _ z; cases z)⟩,ks h.lin,ks h.nam,?_,⟨Sm1 k h.S.at_ (L.neP h.S.at_),fun q hq=>k1 (h.S.pin q hq) (by intro _ _ _ z; cases z),h.S.so,h.S.kq,h.S.len⟩,h.mem,h.ne,h.nms,h.zl,h.zn,h.nl⟩
 obtain ⟨ok,dx,a,b,c,d,kc,kd,w1,w2,w3,w4,w5,w6,w7,w8⟩:=h.W
 have g:∀ {b:Addr} {o:HO},erS H Z b = some o->(H b = some o->H' b = some o)->erS H' Z b = some o:=fun q n=>Jl (X6 q).1 (n (X6 q).2)
 exact ⟨ok,dx,a,b,c,d,kc,kd,g w1 fun q=>k1 q (by intro _ _ _ z; cases z),g w2 ks,g w3 fun q=>Sm1 k q (L.neP q),fun r hr=>g (w4 r hr) fun q=>k1 q (by intro _ _ _ z; cases z),g w5 fun q=>k1 q (by intro _ _ _ z; cases z),g w6 fun q=>k1 q (by intro _ _ _ z; cases z),fun n hn=>let ⟨l,v,q⟩:=w7 n hn; ⟨l,v,g q ks⟩,fun n hn=>let ⟨l,v,q⟩:=w8 n hn; ⟨l,v,g q ks⟩⟩
theorem EA.step (h:EA CD CW H Z e) {li':List Str} (m:∀ n ∈ li',n ∈ e.ns) (ne:li' ≠ []) (k:∀ b o,b ∉ [e.l,e.nm]->H b = some o->H' b = some o) (h1:H' e.l = some (.lst (li'.map V.str))) (h2:H' e.nm = some (.lst (li'.map V.str))):EA CD CW H' Z { e with li:=li' }:=by
 have hY:∀ y ∈ [e.l,e.nm],y ∈ Z/\∃ rs:List Str,rs ≠ []/\H y = some (.lst (rs.map V.str)):=fun y hy=>by
  rcases List.mem_cons.mp hy with rfl | hy
  ·exact ⟨h.zl,e.li,h.ne,h.lin⟩
  ·rw [List.mem_singleton.mp hy]
   exact ⟨h.zn,e.li,h.ne,h.nam⟩
 have out:∀ {b:Addr} {o:HO},H b = some o->(∀ rs:List Str,rs ≠ []->o ≠ .lst (rs.map V.str))->b ∉ [e.l,e.nm]:=fun {b o} q n z=>by
  obtain ⟨_,rs,hr,e⟩:=hY b z
  rw [q] at e
  exact n rs hr (Option.some.inj e)
 obtain ⟨dd,q⟩:=h.ins
 exact ⟨k _ _ (out h.at_ fun rs _ z=>Hr (by intro y z; cases z) (HO.lst.inj z).symm) h.at_,⟨dd,k _ _ (out q fun rs _ z=>by cases z) q⟩,h1,h2,h.W.same (X2 fun b o hb q=>⟨hb,k b o (fun z=>hb (hY b z).1) q⟩),⟨k _ _ (out h.S.at_ fun rs hr z=>Nz hr (HO.lst.inj z).symm) h.S.at_,fun q hq=>k _ _ (out (h.S.pin q hq) fun rs _ z=>by cases z) (h.S.pin q hq),h.S.so,h.S.kq,h.S.len⟩,m,ne,h.nms,h.zl,h.zn,h.nl⟩
end
end Sw
namespace Sw
open PySem L2
theorem Dn {H H':Hp} {p b:Addr} {c:Int} (k:Sm [p] H H') (L:LeftAt H' p c) (h:H' b = none):H b = none:=by
 obtain ⟨y,z,e0,_⟩:=L
 cases e:H b with
 | none=>rfl
 | some o =>
  have:=Sm1 k e (A8 e0 h).symm
  rw [h] at this
  cases this
theorem LeftAt.nn' {H:Hp} {p b:Addr} {c:Int} (h:LeftAt H p c) (e:H b = none):b ≠ p:=fun z=>by
 obtain ⟨_,_,f,_⟩:=h
 rw [z,f] at e
 cases e
section
variable {P:Program} {w:World} {K:PySem.W.Frag} {mg:Str->Option Value} {base:Heap}
theorem i7:FnScope ["_law_left_here", "_law_web", "_law_names_here", "_law_strikes_here", "_law_firm", "_law_named"] ["_law_left_here", "_law_web", "_law_names_here", "_law_strikes_here"] (B5 s_law_begun):=⟨rfl,rfl,rfl,by decide +kernel,rfl,by decide +kernel,by decide +kernel⟩
noncomputable def Kf (CD CW:Addr):Sp:=fun vs H Q _=>∃ p c xw n st ns qs ps ss,vs = [.ref p,.ref xw,.ref n,.ref st]/\LeftAt H p c/\c<=800000/\WebAt CW H xw ns qs/\H n = some (.lst (ss.map V.str))/\ns.Perm ss/\(∀ y ∈ ns,M7 y = true)/\0 < ss.length/\ss.length<=100/\SP H st qs ps /\
 ∀ (e:Ent) H',Sm [p] H H'->LeftAt H' p (c + 2)->(∀ Z,(∀ z ∈ Z,z ≠ p/\∃ zs,H z = some (.lst zs))->EA CD CW H' (Z ++ [e.nm,e.l]) e)->H e.l = none->H e.nm = none->H e.o = none->e.li.length = 1->e.st = st->Q (.ref e.o) H'
set_option maxHeartbeats 2000000 in
theorem Gi (T:Tx K mg):FnOk P w K mg base CX0 7 T.law_begun.f T.law_begun.fd ["_law_left_here", "_law_web", "_law_names_here", "_law_strikes_here"] (Kf T.CDp T.CWeb):=by
 have G_law_pick:FnOk P w K mg base CX0 2 T.law_pick.f T.law_pick.fd ["_law_left_here", "_law_many"] b7:=P2 T
 have G_Dp___init__:FnOk P w K mg base CX0 5 T.fDp___init__ T.fdDp___init__ ["self", "web", "name", "kind"] (Kh T.CDp T.CWeb):=Lj T
 have sc:=i7
 refine T.law_begun.F.ok i7 (fun vs H Q E h=>?_) (fun cdv A outer s H vs Q E hr h=>?_)
 ·obtain ⟨p,c,xw,n,st,ns,qs,ps,ss,rfl,_⟩:=h
  rfl
 ·obtain ⟨p,c,xw,n,st,ns,qs,ps,ss,rfl,hL,c1,W0,en,pn,hN,l0,l100,hS,q⟩:=h
  refine ⟨_,(B0 (C5 (i:=4) sc.nd rfl (by first | exact Or.inl rfl | exact Or.inr rfl) (I9 Q7 (E4 T.law_pick G_law_pick (hr.mono (by decide)) (A6 (pv 0) (A6 B4 A9))) B4 (C8 _)))
   (B0 (C5 (i:=5) sc.nd rfl (by first | exact Or.inl rfl | exact Or.inr rfl) (G8 (A6 (E3 (ixL K) (pv 2) (E4 T.law_pick G_law_pick (hr.mono (by decide)) (A6 (pv 0) (A6 (D0 (O7 K) T.b_len O3 (A6 (pv 2) A9)) A9))) (fun _ _=>rfl)) A9)))
   (@B1 _ _ _ (@C0 _ _ _ _ (@G8 _ _ _ _ (@A6 _ _ _ _ _ (Cw T.mkDp G_Dp___init__ (hr.mono (by decide)) rfl T.mgDp T.bDp___init__ .nil F0 (@A6 _ _ _ _ _ (pv 1) (@A6 _ _ _ _ _ (E3 (ixL K) (pv 5) B4 (fun _ _=>rfl)) (@A6 _ _ _ _ _ (E3 (ixL K) (G8 (A6 D9 (A6 D9 A9))) (Dw y9 T.b_int Ji (A6 (pv 4) A9)) (fun _ _=>rfl)) A9 (by rfl)) (by rfl)) (by rfl))) (@A6 _ _ _ _ _ (pv 3) (@A6 _ _ _ _ _ (pv 5) (@A6 _ _ _ _ _ (pv 4) A9 (by rfl)) (by rfl)) (by rfl)) (by rfl))))))),?_⟩
  have lm:(ss.map V.str).length = ss.length:=List.length_map ..
  refine B6 fun N0 hN0=>?_
  refine ex1 rfl (W6 (a:=p) rfl hL (by omega) (by decide) (by decide) fun df0 H0 hdf k0 L0=>⟨rfl,?_⟩)
  generalize hf:decide (V.int (df0:Int) = V.int 0) = f
  have W1:=W0.sm hL k0
  have S1:SP H0 st qs ps:=⟨Sm1 k0 hS.at_ (hL.neP hS.at_),fun r hr=>Cn (hS.pin r hr) hL k0,hS.so,hS.kq,hS.len⟩
  have en1:=Sm1 k0 en (hL.ne en)
  refine hN0 _ _ (B6 fun N1 hN1=>?_)
  refine ex1 rfl (ex1 rfl (ex1 rfl ⟨n,_,rfl,.inl (SqL.of en1),W6 (a:=p) rfl L0 (by omega) (by rw [lm]; omega) (by rw [lm]; omega) fun d0 H1 hd0 k1 L1=>?_⟩))
  rw [lm] at hd0
  obtain ⟨y0,hy0⟩:∃ y,ss[d0]? = some y:=⟨_,List.getElem?_eq_getElem (by omega)⟩
  have my0:y0 ∈ ns:=pn.mem_iff.mpr (List.mem_of_getElem? hy0)
  have en2:=Sm1 k1 en1 (L0.ne en1)
  refine ⟨n,_,B7 rfl rfl ⟨SqL.of en2,Q8 (by rw [List.getElem?_map,hy0]; rfl),⟨by show 1<=sizeLine; decide,fun nm hnm=>?_⟩⟩⟩
  have k01:=k0.trans k1
  have W2:=W1.sm L0 k1
  have S2:SP H1 st qs ps:=⟨Sm1 k1 S1.at_ (L0.neP S1.at_),fun r hr=>Cn (S1.pin r hr) L0 k1,hS.so,hS.kq,hS.len⟩
  have u2:=Same.new (o:=.lst [.str y0]) hnm
  have f2:(upd H1 nm (.lst [.str y0])) nm = some (.lst ([y0].map V.str)):=A7
  have fnm:H nm = none:=Dn k01 L1 hnm
  have L2:=L1.same u2
  generalize upd H1 nm (.lst [.str y0]) = H2 at u2 f2 L2 ⊢
  refine hN1 _ _ ?_
  refine ex1 rfl (ex1 rfl ⟨nm,_,B7 rfl rfl ⟨SqL.of f2,rfl,⟨by show 2<=sizeLine; decide,fun a ha=>?_⟩⟩⟩)
  have u3:=Same.new (o:=.lst [.str "some",.str "firm"]) ha
  have f3:(upd H2 a (.lst [.str "some",.str "firm"])) a = some (.lst [.str "some",.str "firm"]):=A7
  generalize upd H2 a (.lst [.str "some",.str "firm"]) = H3 at u3 f3 ⊢
  refine ex1 rfl (.inr ⟨_,rfl,⟨a,_,B7 rfl rfl ⟨SqL.of f3,(show atI [V.str "some",.str "firm"] (if f = true then 1 else 0) = some (.str (kdS f)) by cases f <;> rfl),?_⟩⟩⟩)
  intro d dd nd ndd ned
  have t0:Same H3 (upd (upd H3 dd (.own d)) d (.ins T.CDp dd [])):=fun b o e=>by
   rw [B2 (A8 e nd),B2 (A8 e ndd)]
   exact e
  have u13:=u2.trans u3
  have W3:=(W2.same u13).same t0
  have xwd:xw ≠ d:=by
   obtain ⟨_,dx,_,_,_,_,_,_,ex,_⟩:=W2.same u13
   exact A8 ex nd
  refine ⟨d,dd,xw,y0,kdS f,ns,qs,rfl,A7,W3,xwd,my0,hN,fun x l qs2 H4 pq srq k4 D4 fl CZ=>⟨rfl,?_⟩⟩
  have s34:Same H3 H4:=fun b o e=>k4 b o (t0 b o e) (by simpa using A8 e nd)
  have s14:=u13.trans s34
  refine ex1 rfl (ex1 rfl (ex1 rfl ⟨by show 4<=sizeLine; decide,fun o ho=>?_⟩))
  have u5:=Same.new (o:=.lst [.ref d,.ref st,.ref nm,.bl f]) ho
  have f5:(upd H4 o (.lst [.ref d,.ref st,.ref nm,.bl f])) o = some (.lst [.ref d,.ref st,.ref nm,.bl f]):=A7
  have s15:=s14.trans u5
  generalize hH5:upd H4 o (.lst [.ref d,.ref st,.ref nm,.bl f]) = H5 at u5 f5 s15 ⊢
  have nm_l:nm ≠ l:=A8 (t0 _ _ (u3 _ _ f2)) fl
  have fl0:H l = none:=by
   have h3:H3 l = none:=t0.free fl
   exact Dn (k01.trans u13.sm) (L2.same u3) h3
  have fo:H o = none:=Dn (k01.trans s14.sm) (L1.same s14) ho
  have web:∀ z zs,H2 z = some (.lst zs)->WebAt T.CWeb (er H5 z) x ns qs2:=fun z zs hz =>
   (CZ z zs (t0 _ _ (u3 _ _ hz))).same fun b o' e=>by
    obtain ⟨h1,h2⟩:=Bg e
    obtain ⟨h3,h4⟩:=Bg h2
    rw [S3 h1]
    exact u5 _ _ h4
  have Wl:WebAt T.CWeb (erS H5 [l]) x ns qs2:=D4.W.same fun b o' e=>by
   obtain ⟨h1,h2⟩:=Bg e
   exact Jl (by simpa using h1) (u5 _ _ h2)
  refine q ⟨o,d,x,l,nm,st,f,ns,qs2,ps,[y0]⟩ H5 (k01.trans s15.sm) ((L1.same s15).cast (by omega)) (fun Z hZ=>?_) fl0 fnm fo rfl rfl
  obtain ⟨dd',e'⟩:=D4.ins
  refine ⟨f5,⟨dd',u5 _ _ e'⟩,u5 _ _ D4.at_,u5 _ _ (s34 _ _ (u3 _ _ f2)),(Wl.erS1 (web nm _ f2)).erSs fun z hz=>?_,⟨s15 _ _ S2.at_,fun r hr=>s15 _ _ (S2.pin r hr),srq,(pq.map _).trans hS.kq,hS.len⟩,D4.mem,D4.ne,hN,by simp,by simp,nm_l.symm⟩
  obtain ⟨zp,zs,ez⟩:=hZ z hz
  exact web z zs (u2 _ _ (Sm1 k01 ez zp))
theorem S0:FnScope ["_law_some"] ["_law_some"] (B5 s_law_all_right):=⟨rfl,rfl,rfl,by decide +kernel,rfl,by decide +kernel,by decide +kernel⟩
noncomputable def d9 (CD CW:Addr):Sp:=fun vs H Q _=>∃ (a:Addr) (Z:List Addr) (es:List Ent),vs = [.ref a]/\H a = some (.lst (es.map fun e=>V.ref e.o))/\(∀ e ∈ es,EA CD CW H Z e/\e.li.length<=150)/\es.length<=100/\∀ H',Same H H'->Q (.bl true) H'
set_option maxHeartbeats 1000000 in
theorem n8 (T:Tx K mg):FnOk P w K mg base CX0 10 T.law_all_right.f T.law_all_right.fd ["_law_some"] (d9 T.CDp T.CWeb):=by
 have G_law_looks_right:FnOk P w K mg base CX0 9 T.law_looks_right.f T.law_looks_right.fd ["_law_dispute", "_law_strikes_here", "_law_named", "_law_firm"] (Jk T.CDp T.CWeb):=V6 T
 have sc:=S0
 refine T.law_all_right.F.ok S0 (fun vs H Q E h=>?_) (fun cdv A outer s H vs Q E hr h=>?_)
 ·obtain ⟨a,Z,es,rfl,_⟩:=h
  rfl
 ·obtain ⟨a,Z,es,rfl,ea,hE,len,q⟩:=h
  refine ⟨_,(B1 (C0 (D0 (Kj K) T.b_all Je (A6 (Aw (N':=["_law_one"]) (cap:=[none]) (cl:=[]) (V2 trivial trivial) rfl (piL K (pv 0)) (fun _ _ _ _=>by exact ⟨(pgC 0),O9,(E4 T.law_looks_right G_law_looks_right (hr.mono (by decide)) (@A6 _ _ _ _ _ (E3 (ixL K) (pv 0) B4 (fun _ _=>rfl)) (@A6 _ _ _ _ _ (E3 (ixL K) (pv 0) B4 (fun _ _=>rfl)) (@A6 _ _ _ _ _ (E3 (ixL K) (pv 0) B4 (fun _ _=>rfl)) (@A6 _ _ _ _ _ (E3 (ixL K) (pv 0) B4 (fun _ _=>rfl)) A9 (by rfl)) (by rfl)) (by rfl)) (by rfl)))⟩)) A9)))),?_⟩
  refine ex1 rfl ⟨a,rfl,⟨_,SqL.of ea⟩,fun D hD=>?_⟩
  refine Q3 (asL (K:=K) (SqL.of ea)) (fun i σ G=>(∃ v,σ = [v])/\Same H G/\G D = some (.lst ((List.replicate i true).map V.bl))) ⟨⟨_,rfl⟩,Same.new hD,A7⟩ (fun i σ G _ h=>h.2.1.at a) ?_ ?_
  ·rintro i σ G v N hx ⟨⟨v0,rfl⟩,sG,eG⟩ hN
   rw [List.getElem?_map] at hx
   obtain ⟨e,he,rfl⟩:=Option.map_eq_some_iff.mp hx
   have li:i < es.length:=(List.getElem?_eq_some_iff.mp he).1
   obtain ⟨hA,hl⟩:=hE e (List.mem_of_getElem? he)
   have hG:=hA.same sG
   refine b8 ?_
   refine ex1 rfl ⟨e.o,_,B7 rfl rfl ⟨SqL.of hG.at_,rfl,?_⟩⟩
   refine ex1 rfl ⟨e.o,_,B7 rfl rfl ⟨SqL.of hG.at_,rfl,?_⟩⟩
   refine ex1 rfl ⟨e.o,_,B7 rfl rfl ⟨SqL.of hG.at_,rfl,?_⟩⟩
   refine ex1 rfl ⟨e.o,_,B7 rfl rfl ⟨SqL.of hG.at_,rfl,?_⟩⟩
   refine ⟨e.f,e.d,e.st,e.nm,e.x,e.l,e.ns,e.qs,e.ps,e.li,rfl,hG.D hl,hG.S,hG.nam,hG.nms,fun G2 s2=>?_⟩
   refine ⟨_,s2 _ _ eG,by rw [List.length_map,List.length_replicate,sizeLine_eq]; omega,hN _ _ ⟨⟨_,rfl⟩,(sG.trans s2).upd hD,?_⟩⟩
   rw [A7,List.replicate_succ',List.map_append]; rfl
  ·rintro σ G ⟨_,sG,eG⟩
   have e1:(List.replicate (es.map fun e=>V.ref e.o).length true).all id = true:=List.all_eq_true.mpr fun x hx=>(List.mem_replicate.mp hx).2
   have q':Q (.bl ((List.replicate (es.map fun e=>V.ref e.o).length true).all id)) G:=e1.symm ▸ q _ sG
   exact ⟨D,_,rfl,SqL.of eG,q'⟩
end
end Sw
namespace Sw
open PySem L2
noncomputable def zs (es:List Ent):List Addr:=es.flatMap fun e=>[e.nm,e.l]
theorem mem_zs {es:List Ent} {z:Addr}:z ∈ zs es ↔ ∃ e ∈ es,z = e.nm\/z = e.l:=by
 unfold zs
 rw [List.mem_flatMap]
 simp
noncomputable def Nr (es:List Ent):List V:=es.map fun e=>V.ref e.o
theorem Ej {rs:List Str} (hr:rs ≠ []) {es:List Ent}:rs.map V.str ≠ Nr es:=fun z=>by
 cases rs with
 | nil=>exact hr rfl
 | cons y r =>
  cases es with
  | nil=>cases z
  | cons q r'=>have:=List.head_eq_of_cons_eq z; cases this
structure ES (CD CW:Addr) (H1 H:Hp) (sm p:Addr) (c:Int) (m:Nat) (es:List Ent):Prop where
 s1:Same H1 H
 at_:H sm = some (.lst (Nr es))
 ea:∀ e ∈ es,EA CD CW H (sm :: zs es) e
 nd:es.Pairwise fun a b=>a.l ≠ b.l/\a.l ≠ b.nm/\a.nm ≠ b.l/\a.nm ≠ b.nm
 fr:∀ e ∈ es,H1 e.l = none/\H1 e.nm = none/\e.st ≠ sm
 L:LeftAt H p c
 fp:H1 p = none
 fs:H1 sm = none
 sp:sm ≠ p
 len:∀ e ∈ es,e.li.length<=m
section
variable {CD CW:Addr} {H1 H H':Hp} {sm p:Addr} {c c':Int} {m:Nat} {es:List Ent}
theorem ES.same (h:ES CD CW H1 H sm p c m es) (s:Same H H'):ES CD CW H1 H' sm p c m es :=
 ⟨h.s1.trans s,s _ _ h.at_,fun e he=>(h.ea e he).same s,h.nd,h.fr,h.L.same s,h.fp,h.fs,h.sp,h.len⟩
theorem ES.drawn (h:ES CD CW H1 H sm p c m es) (k:Sm [p] H H') (L':LeftAt H' p c'):ES CD CW H1 H' sm p c' m es :=
 ⟨fun b o e=>Sm1 k (h.s1 _ _ e) (A8 e h.fp),Sm1 k h.at_ h.sp,fun e he=>(h.ea e he).sm h.L k,h.nd,h.fr,L',h.fp,h.fs,h.sp,h.len⟩
theorem ES.lens (h:ES CD CW H1 H sm p c m es) {m':Nat} (hm:m<=m'):ES CD CW H1 H sm p c m' es :=
 ⟨h.s1,h.at_,h.ea,h.nd,h.fr,h.L,h.fp,h.fs,h.sp,fun e he=>Nat.le_trans (h.len e he) hm⟩
theorem EA.sml {Z:List Addr} {e:Ent} (h:EA CD CW H Z e) (hz:sm ∈ Z) (hs:H sm = some (.lst (Nr es))) (ns:e.st ≠ sm) {ys:List V}:EA CD CW (upd H sm (.lst ys)) Z e:=by
 obtain ⟨dd,q⟩:=h.ins
 have no:e.o ≠ sm:=M8 h.at_ hs (fun z=>by
  have z:=HO.lst.inj z
  unfold Nr at z
  have l:=congrArg List.length z
  have:(es.map fun e=>V.ref e.o)[3]? = some (.bl e.f):=by rw [<-z]; rfl
  rw [List.getElem?_map] at this
  cases hq:es[3]? with
  | none=>rw [hq] at this; cases this
  | some y=>rw [hq] at this; cases this)
 have nl:e.l ≠ sm:=M8 h.lin hs (fun z=>Ej h.ne (HO.lst.inj z))
 have nn:e.nm ≠ sm:=M8 h.nam hs (fun z=>Ej h.ne (HO.lst.inj z))
 refine ⟨(B2 no).trans h.at_,⟨dd,(B2 (M8 q hs (by intro z; cases z))).trans q⟩,(B2 nl).trans h.lin,(B2 nn).trans h.nam,h.W.same (X2 fun b o hb q=>⟨hb,(B2 (fun z=>hb (by rw [z]; exact hz))).trans q⟩),⟨(B2 ns).trans h.S.at_,fun r hr=>(B2 (M8 (h.S.pin r hr) hs (by intro z; cases z))).trans (h.S.pin r hr),h.S.so,h.S.kq,h.S.len⟩,h.mem,h.ne,h.nms,h.zl,h.zn,h.nl⟩
theorem ES.add (h:ES CD CW H1 H sm p c m es) {e:Ent} (k:Sm [p] H H') (L':LeftAt H' p c') (hm:1<=m) (he:∀ Z,(∀ z ∈ Z,z ≠ p/\∃ xs,H z = some (.lst xs))->EA CD CW H' (Z ++ [e.nm,e.l]) e) (fl:H e.l = none) (fn:H e.nm = none) (ns:e.st ≠ sm) (l1:e.li.length = 1) :
  ES CD CW H1 (upd H' sm (.lst (Nr es ++ [.ref e.o]))) sm p c' m (es ++ [e]):=by
 have h':=h.drawn k L'
 have old:∀ z ∈ sm :: zs es,z ≠ p/\∃ xs,H z = some (.lst xs):=fun z hz=>by
  rcases List.mem_cons.mp hz with rfl | hz
  ·exact ⟨h.sp,_,h.at_⟩
  ·obtain ⟨a,ha,hz⟩:=mem_zs.mp hz
   have A:=h.ea a ha
   rcases hz with rfl | rfl
   ·exact ⟨h.L.ne A.nam,_,A.nam⟩
   ·exact ⟨h.L.ne A.lin,_,A.lin⟩
 have eZ:sm :: zs (es ++ [e]) = (sm :: zs es) ++ [e.nm,e.l]:=by unfold zs; simp
 have hN:=he _ old
 rw [<-eZ] at hN
 have hO:∀ a ∈ es,EA CD CW H' (sm :: zs (es ++ [e])) a:=fun a ha=>by
  refine ((h.ea a ha).more (fun z hz=>?_) fun z hz=>?_).sm h.L k
  ·rw [eZ] at hz
   rcases List.mem_append.mp hz with hz | hz
   ·exact .inl hz
   ·right
    rcases List.mem_cons.mp hz with rfl | hz
    ·exact fn
    ·rw [List.mem_singleton.mp hz]; exact fl
  ·rw [eZ]
   exact List.mem_append_left _ hz
 have hs':=h'.at_
 have mz:sm ∈ sm :: zs (es ++ [e]):=List.mem_cons_self ..
 refine ⟨h'.s1.upd h.fs,by rw [A7]; unfold Nr; rw [List.map_append]; rfl,fun a ha=>?_,?_,fun a ha=>?_,L'.upd h.sp.symm,h.fp,h.fs,h.sp,fun a ha=>?_⟩
 ·rcases List.mem_append.mp ha with ha | ha
  ·exact (hO a ha).sml mz hs' (h.fr a ha).2.2
  ·rw [List.mem_singleton.mp ha]
   exact hN.sml mz hs' ns
 ·refine List.pairwise_append.mpr ⟨h.nd,List.pairwise_singleton ..,fun a ha b hb=>?_⟩
  rw [List.mem_singleton.mp hb]
  have A:=h.ea a ha
  exact ⟨A8 A.lin fl,A8 A.lin fn,A8 A.nam fl,A8 A.nam fn⟩
 ·rcases List.mem_append.mp ha with ha | ha
  ·exact h.fr a ha
  ·rw [List.mem_singleton.mp ha]
   exact ⟨h.s1.free fl,h.s1.free fn,ns⟩
 ·rcases List.mem_append.mp ha with ha | ha
  ·exact h.len a ha
  ·rw [List.mem_singleton.mp ha,l1]; exact hm
theorem Ww {es:List Ent} {i:Nat} {e:Ent} {li':List Str} (he:es[i]? = some e):zs (es.set i { e with li:=li' }) = zs es:=by
 induction es generalizing i with
 | nil=>cases he
 | cons a r ih =>
  cases i with
  | zero=>cases he; rfl
  | succ i =>
   have:=ih (i:=i) he
   unfold zs at this ⊢
   rw [List.set_cons_succ,List.flatMap_cons,List.flatMap_cons,this]
theorem Rj {es:List Ent} {i:Nat} {e:Ent} {li':List Str} (he:es[i]? = some e):Nr (es.set i { e with li:=li' }) = Nr es:=by
 induction es generalizing i with
 | nil=>cases he
 | cons a r ih =>
  cases i with
  | zero=>cases he; rfl
  | succ i =>
   have:=ih (i:=i) he
   unfold Nr at this ⊢
   rw [List.set_cons_succ,List.map_cons,List.map_cons,this]
theorem Yt {es:List Ent} {i:Nat} {e:Ent} {li':List Str} (he:es[i]? = some e) (h:es.Pairwise fun a b=>a.l ≠ b.l/\a.l ≠ b.nm/\a.nm ≠ b.l/\a.nm ≠ b.nm):(es.set i { e with li:=li' }).Pairwise fun a b=>a.l ≠ b.l/\a.l ≠ b.nm/\a.nm ≠ b.l/\a.nm ≠ b.nm:=by
 induction es generalizing i with
 | nil=>cases he
 | cons a r ih =>
  obtain ⟨h1,h2⟩:=List.pairwise_cons.mp h
  cases i with
  | zero =>
   cases he
   exact List.pairwise_cons.mpr ⟨h1,h2⟩
  | succ i =>
   rw [List.set_cons_succ]
   refine List.pairwise_cons.mpr ⟨fun b hb=>?_,ih (i:=i) he h2⟩
   rcases List.mem_or_eq_of_mem_set hb with hb | rfl
   ·exact h1 b hb
   ·exact h1 e (List.mem_of_getElem? he)
theorem Ys {es:List Ent} {i j:Nat} {e a:Ent} (h:es.Pairwise fun a b=>a.l ≠ b.l/\a.l ≠ b.nm/\a.nm ≠ b.l/\a.nm ≠ b.nm) (hi:es[i]? = some e) (hj:es[j]? = some a) (hij:i ≠ j):a.l ∉ [e.l,e.nm]/\a.nm ∉ [e.l,e.nm]:=by
 obtain ⟨i1,i2⟩:=List.getElem?_eq_some_iff.mp hi
 obtain ⟨j1,j2⟩:=List.getElem?_eq_some_iff.mp hj
 have pw:=List.pairwise_iff_getElem.mp h
 by_cases c:i < j
 ·have:=pw i j i1 j1 c
  rw [i2,j2] at this
  obtain ⟨p1,p2,p3,p4⟩:=this
  exact ⟨by simp [p1.symm,p3.symm],by simp [p2.symm,p4.symm]⟩
 ·have:=pw j i j1 i1 (by omega)
  rw [i2,j2] at this
  obtain ⟨p1,p2,p3,p4⟩:=this
  exact ⟨by simp [p1,p2],by simp [p3,p4]⟩
theorem ES.step (h:ES CD CW H1 H sm p c m es) {i:Nat} {e:Ent} (he:es[i]? = some e) {li':List Str} (mm:∀ n ∈ li',n ∈ e.ns) (ne:li' ≠ []) (hl:li'.length<=m) (k:∀ b o,b ∉ [e.l,e.nm]->H b = some o->H' b = some o) (h1:H' e.l = some (.lst (li'.map V.str))) (h2:H' e.nm = some (.lst (li'.map V.str))) :
  ES CD CW H1 H' sm p c m (es.set i { e with li:=li' }):=by
 have hm:=List.mem_of_getElem? he
 have A:=h.ea e hm
 have hY:∀ y ∈ [e.l,e.nm],y ∈ sm :: zs es/\∃ rs:List Str,rs ≠ []/\H y = some (.lst (rs.map V.str)):=fun y hy=>by
  rcases List.mem_cons.mp hy with rfl | hy
  ·exact ⟨A.zl,e.li,A.ne,A.lin⟩
  ·rw [List.mem_singleton.mp hy]
   exact ⟨A.zn,e.li,A.ne,A.nam⟩
 have out:∀ {b:Addr} {o:HO},H b = some o->(∀ rs:List Str,rs ≠ []->o ≠ .lst (rs.map V.str))->b ∉ [e.l,e.nm]:=fun {b o} q n z=>by
  obtain ⟨_,rs,hr,e⟩:=hY b z
  rw [q] at e
  exact n rs hr (Option.some.inj e)
 have fr:=h.fr e hm
 refine ⟨fun b o q=>k b o (fun z=>?_) (h.s1 _ _ q),?_,fun a ha=>?_,Yt he h.nd,fun a ha=>?_,?_,h.fp,h.fs,h.sp,fun a ha=>?_⟩
 ·rcases List.mem_cons.mp z with rfl | z
  ·rw [fr.1] at q; cases q
  ·rw [List.mem_singleton.mp z,fr.2.1] at q; cases q
 ·rw [Rj he]
  exact k _ _ (out h.at_ fun rs hr z=>Ej hr (HO.lst.inj z).symm) h.at_
 ·rw [Ww he]
  obtain ⟨j,hj⟩:=List.getElem?_of_mem ha
  by_cases c:i = j
  ·subst c
   have:(es.set i { e with li:=li' })[i]? = some { e with li:=li' }:=by rw [List.getElem?_set_self (List.getElem?_eq_some_iff.mp he).1]
   rw [this] at hj
   cases hj
   exact A.step mm ne k h1 h2
  ·rw [List.getElem?_set_ne c] at hj
   obtain ⟨b1,b2⟩:=Ys h.nd he hj c
   exact (h.ea a (List.mem_of_getElem? hj)).keep hY b1 b2 k
 ·rcases List.mem_or_eq_of_mem_set ha with ha | rfl
  ·exact h.fr a ha
  ·exact fr
 ·obtain ⟨y,z,e0,c0⟩:=h.L
  exact ⟨y,z,k _ _ (out e0 fun rs hr z=>by
   have z:=(HO.lst.inj z).symm
   cases rs with
   | nil=>exact hr rfl
   | cons y r=>have:=List.head_eq_of_cons_eq z; cases this) e0,c0⟩
 ·rcases List.mem_or_eq_of_mem_set ha with ha | rfl
  ·exact h.len a ha
  ·exact hl
end
end Sw
namespace Sw
open PySem L2
section
variable {P:Program} {w:World} {K:PySem.W.Frag} {mg:Str->Option Value} {base:Heap}
theorem Vc (xs:List Str):PyData.eqv (sd xs) (.list []) = decide (xs = []):=by
 cases xs with
 | nil=>rfl
 | cons y r =>
  rw [decide_eq_false (by intro z; cases z)]
  unfold sd
  rw [List.map_cons]
  simp [PyData.eqv,PyData.eqvAll]
theorem Vx {H:Hp} {m z:Addr} {ss:List Str} {Q:VK} (h:H m = some (.lst (ss.map V.str))) (hs:∀ y ∈ ss,M7 y = true) (hz:H z = some (.lst [])) (q:Q (.bl (!decide (ss = []))) H):zAt K (.ref m) (.ref z) H Q :=
 ⟨sd ss,.list [],Mp (SqL.of h),by simp only [Rp,Rps]; exact ⟨z,_,rfl,SqL.of hz,rfl⟩,Nt hs,⟨rfl,by simp [PyData.depth,PyData.depthAll]⟩,by rw [Vc]; exact q⟩
theorem EA.Dup {CD CW:Addr} {H:Hp} {Z:List Addr} {e:Ent} (h:EA CD CW H Z e) (len:e.li.length<=150) {o:HO}:DAt CD CW (upd H e.nm o) e.d e.x e.l e.ns e.qs (kdS e.f) e.li:=by
 obtain ⟨dd,q⟩:=h.ins
 refine ⟨⟨dd,(B2 (M8 q h.nam (by intro z; cases z))).trans q⟩,(B2 h.nl).trans h.lin,h.W.same fun b o q=>?_,h.mem,h.ne,len⟩
 obtain ⟨h1,h2⟩:=X6 q
 have nb:b ≠ e.l:=fun z=>h1 (by rw [z]; exact h.zl)
 have nn:b ≠ e.nm:=fun z=>h1 (by rw [z]; exact h.zn)
 rw [S3 nb,B2 nn]
 exact h2
theorem zCb {d:Nat} (h:d<=10):∃ e1:Nat,(if (d:Int) > 1 then (d:Int) else 1) = (e1:Int)/\e1<=10/\0 < e1:=by
 by_cases c:(d:Int) > 1
 ·rw [if_pos c]; exact ⟨d,rfl,h,by omega⟩
 ·rw [if_neg c]; exact ⟨1,rfl,by decide,by decide⟩
theorem Yp {C:Addr} {H H':Hp} {x p s:Addr} {c:Int} {ns:List Str} {qs:List PA2} (h:WebAt C (er H s) x ns qs) (L:LeftAt H p c) (n:s ≠ p) (k:∀ b o,b ≠ p->b ≠ s->H b = some o->H' b = some o):WebAt C (er H' s) x ns qs:=by
 obtain ⟨y,z,e0,c0⟩:=L
 refine h.sm (p:=p) (c:=c) ⟨y,z,(S3 n.symm).trans e0,c0⟩ fun b o e hb=>?_
 obtain ⟨h1,h2⟩:=Bg e
 rw [S3 h1]
 exact k b o (by simpa using hb) h1 h2
theorem Ts:FnScope ["_law_script", "_law_k", "_law_some", "_law_left_here", "_law_names_here", "_law_turn_here", "_law_strikes_here", "_law_web", "_law_again", "_law_one", "_law_moves_here"] ["_law_script"] (B5 s_law):=⟨rfl,rfl,rfl,by decide +kernel,rfl,by decide +kernel,by decide +kernel⟩
noncomputable def Ju (K:PySem.W.Frag):Sp:=fun vs H Q _=>∃ (u:Addr) (xs:List Int),vs = [.ref u]/\SqL K H u (xs.map V.int)/\xs.length<=63/\∀ H',Q (.bl true) H'
set_option maxHeartbeats 8000000 in
theorem Yu (T:Tx K mg) {f:Addr} {fd:FuncData} (F:Fun K "law" "law" s_law f fd):FnOk P w K mg base CX0 11 f fd ["_law_script"] (Ju K):=by
 have G_law_left:FnOk P w K mg base CX0 1 T.law_left.f T.law_left.fd ["_law_script", "_law_k"] (Nm K):=Ho T
 have G_law_pick:FnOk P w K mg base CX0 2 T.law_pick.f T.law_pick.fd ["_law_left_here", "_law_many"] b7:=P2 T
 have G_law_size:FnOk P w K mg base CX0 3 T.law_size.f T.law_size.fd ["_law_left_here"] Ni:=Ie T
 have G_law_names:FnOk P w K mg base CX0 3 T.law_names.f T.law_names.fd ["_law_left_here", "_law_many"] Ke:=Ew T
 have G_law_strikes:FnOk P w K mg base CX0 3 T.law_strikes.f T.law_strikes.fd ["_law_left_here", "_law_names_here"] (Cd K):=Az T
 have G_Web___init__:FnOk P w K mg base CX0 3 T.fWeb___init__ T.fdWeb___init__ ["self", "names", "strikes"] (V0 K T.CWeb):=Ad T
 have G_Web_all_strikes:FnOk P w K mg base CX0 1 T.mWeb_all_strikes.f T.mWeb_all_strikes.fd ["self"] (Q1 T.CWeb):=P9 T
 have G_Web_strikers:FnOk P w K mg base CX0 2 T.mWeb_strikers.f T.mWeb_strikers.fd ["self", "name"] (O8 T.CWeb):=J8 T
 have G_law_begun:FnOk P w K mg base CX0 7 T.law_begun.f T.law_begun.fd ["_law_left_here", "_law_web", "_law_names_here", "_law_strikes_here"] (Kf T.CDp T.CWeb):=Gi T
 have G_law_refused:FnOk P w K mg base CX0 6 T.law_refused.f T.law_refused.fd ["_law_web", "_law_name", "_law_kind"] (Bx T.CWeb):=Ba T
 have G_law_moves:FnOk P w K mg base CX0 2 T.law_moves.f T.law_moves.fd ["_law_strikes_here", "_law_named", "_law_firm"] Ab:=d6 T
 have G_Dp_play:FnOk P w K mg base CX0 8 T.mDp_play.f T.mDp_play.fd ["self", "name"] (Mm T.CDp T.CWeb):=Lv T
 have G_Dp_back:FnOk P w K mg base CX0 1 T.mDp_back.f T.mDp_back.fd ["self"] (Pu T.CDp T.CWeb):=Km T
 have G_law_all_right:FnOk P w K mg base CX0 10 T.law_all_right.f T.law_all_right.fd ["_law_some"] (d9 T.CDp T.CWeb):=n8 T
 have sc:=Ts
 refine F.ok Ts (fun vs H Q E h=>?_) (fun cdv A outer s H vs Q E hr h=>?_)
 ·obtain ⟨u,xs,rfl,_⟩:=h
  rfl
 ·obtain ⟨u,xs,rfl,hS,hlen,q⟩:=h
  refine ⟨_,(B0 (S9 PassesOwn.never rfl (Zx T.b_range (A6 (D0 (As rfl) T.b_max Nd (@A6 _ _ _ _ _ B4 (@A6 _ _ _ _ _ (D0 (Oq rfl) T.b_min Yo (@A6 _ _ _ _ _ (D0 (O7 K) T.b_len O3 (A6 (pv 0) A9)) (@A6 _ _ _ _ _ B4 A9 (by rfl)) (by rfl))) A9 (by rfl)) (by rfl))) A9)) (G9 (i:=1) sc.nd rfl (by first | exact Or.inl rfl | exact Or.inr rfl))
   (B0 (C5 (i:=2) sc.nd rfl (by first | exact Or.inl rfl | exact Or.inr rfl) (G8 A9))
   (B0 (C5 (i:=3) sc.nd rfl (by first | exact Or.inl rfl | exact Or.inr rfl) (E4 T.law_left G_law_left (hr.mono (by decide)) (@A6 _ _ _ _ _ (pv 0) (@A6 _ _ _ _ _ (pv 1) A9 (by rfl)) (by rfl))))
   (B0 (C5 (i:=4) sc.nd rfl (by first | exact Or.inl rfl | exact Or.inr rfl) (E4 T.law_names G_law_names (hr.mono (by decide)) (@A6 _ _ _ _ _ (pv 3) (@A6 _ _ _ _ _ (D0 (As rfl) T.b_max Nd (@A6 _ _ _ _ _ B4 (@A6 _ _ _ _ _ (E4 T.law_size G_law_size (hr.mono (by decide)) (A6 (pv 3) A9)) A9 (by rfl)) (by rfl))) A9 (by rfl)) (by rfl))))
   (B0 (S9 PassesOwn.never rfl (Zx T.b_range (A6 B4 A9)) (G9 (i:=5) sc.nd rfl (by first | exact Or.inl rfl | exact Or.inr rfl))
   (B0 (I0 (PW.pt (X0 (B9 Q7 (pv 5) B4 (C8 _)) (V3 (B9 Q7 (E4 T.law_pick G_law_pick (hr.mono (by decide)) (@A6 _ _ _ _ _ (pv 3) (@A6 _ _ _ _ _ B4 A9 (by rfl)) (by rfl))) B4 (C8 _))))) (B1 (C5 (i:=4) sc.nd rfl (by first | exact Or.inl rfl | exact Or.inr rfl) (E4 T.law_names G_law_names (hr.mono (by decide)) (@A6 _ _ _ _ _ (pv 3) (@A6 _ _ _ _ _ (D0 (As rfl) T.b_max Nd (@A6 _ _ _ _ _ B4 (@A6 _ _ _ _ _ (E4 T.law_size G_law_size (hr.mono (by decide)) (A6 (pv 3) A9)) A9 (by rfl)) (by rfl))) A9 (by rfl)) (by rfl))))) C1)
   (B0 (C5 (i:=6) sc.nd rfl (by first | exact Or.inl rfl | exact Or.inr rfl) (E4 T.law_strikes G_law_strikes (hr.mono (by decide)) (@A6 _ _ _ _ _ (pv 3) (@A6 _ _ _ _ _ (pv 4) A9 (by rfl)) (by rfl))))
   (B0 (C5 (i:=7) sc.nd rfl (by first | exact Or.inl rfl | exact Or.inr rfl) (Cw T.mkWeb G_Web___init__ (hr.mono (by decide)) rfl T.mgWeb T.bWeb___init__ .nil F0 (@A6 _ _ _ _ _ (pv 4) (@A6 _ _ _ _ _ (pv 6) A9 (by rfl)) (by rfl))))
   (B0 (S9 PassesOwn.never rfl (Zx T.b_range (A6 (K0 Zl B4 (pv 5)) A9)) (G9 (i:=8) sc.nd rfl (by first | exact Or.inl rfl | exact Or.inr rfl))
   (B1 (C7 (Iy K PySem.F.plainAttrs_list PySem.F.slot_list_append PySem.F.type_list_append E8 (pv 2) (A6 (E4 T.law_begun G_law_begun (hr.mono (by decide)) (@A6 _ _ _ _ _ (pv 3) (@A6 _ _ _ _ _ (pv 7) (@A6 _ _ _ _ _ (pv 4) (@A6 _ _ _ _ _ (pv 6) A9 (by rfl)) (by rfl)) (by rfl)) (by rfl))) A9)))))
   (B0 (I0 (PW.pt (Dx (B9 Ld (E4 T.law_refused G_law_refused (hr.mono (by decide)) (@A6 _ _ _ _ _ (pv 7) (@A6 _ _ _ _ _ D9 (@A6 _ _ _ _ _ D9 A9 (by rfl)) (by rfl)) (by rfl))) D9 (C8 _)) (W7 (B9 Ld (E4 T.law_refused G_law_refused (hr.mono (by decide)) (@A6 _ _ _ _ _ (pv 7) (@A6 _ _ _ _ _ D9 (@A6 _ _ _ _ _ D9 A9 (by rfl)) (by rfl)) (by rfl))) D9 (C8 _))))) (B1 (C0 Gr)) C1)
   (B0 (C7 (Sy K PySem.F.plainAttrs_list PySem.F.slot_list_clear PySem.F.type_list_clear Ix (C6 (pv 7) T.clWeb T.mWeb_all_strikes.m G_Web_all_strikes (hr.mono (by decide)) T.mWeb_all_strikes.b .nil F0)))
   (B1 (C7 (Iy K PySem.F.plainAttrs_list PySem.F.slot_list_append PySem.F.type_list_append E8 (P0 (pv 7) T.clWeb T.mWeb_strikers.m G_Web_strikers (hr.mono (by decide)) T.mWeb_strikers.b .nil F0 (A6 (E3 (ixL K) (pv 4) B4 (fun _ _=>rfl)) A9)) (A6 D9 A9)))))))))))
   (B1 (S9 PassesOwn.never rfl (Zx T.b_range (A6 B4 A9)) (G9 (i:=5) sc.nd rfl (by first | exact Or.inl rfl | exact Or.inr rfl))
   (B0 (C5 (i:=9) sc.nd rfl (by first | exact Or.inl rfl | exact Or.inr rfl) (E3 (ixL K) (pv 2) (E4 T.law_pick G_law_pick (hr.mono (by decide)) (@A6 _ _ _ _ _ (pv 3) (@A6 _ _ _ _ _ B4 A9 (by rfl)) (by rfl))) (fun _ _=>rfl)))
   (B0 (C5 (i:=10) sc.nd rfl (by first | exact Or.inl rfl | exact Or.inr rfl) (E4 T.law_moves G_law_moves (hr.mono (by decide)) (@A6 _ _ _ _ _ (E3 (ixL K) (pv 9) B4 (fun _ _=>rfl)) (@A6 _ _ _ _ _ (E3 (ixL K) (pv 9) B4 (fun _ _=>rfl)) (@A6 _ _ _ _ _ (E3 (ixL K) (pv 9) B4 (fun _ _=>rfl)) A9 (by rfl)) (by rfl)) (by rfl))))
   (B0 (I0 (B9 (zAw K hr.units) (pv 10) (G8 A9) (C8 _)) (B0 (C7 (Iy K PySem.F.plainAttrs_list PySem.F.slot_list_append PySem.F.type_list_append E8 (E3 (ixL K) (pv 9) B4 (fun _ _=>rfl)) (A6 (E3 (ixL K) (pv 10) (E4 T.law_pick G_law_pick (hr.mono (by decide)) (@A6 _ _ _ _ _ (pv 3) (@A6 _ _ _ _ _ (D0 (O7 K) T.b_len O3 (A6 (pv 10) A9)) A9 (by rfl)) (by rfl))) (fun _ _=>rfl)) A9)))
   (B1 (C7 (P0 (E3 (ixL K) (pv 9) B4 (fun _ _=>rfl)) T.clDp T.mDp_play.m G_Dp_play (hr.mono (by decide)) T.mDp_play.b .nil F0 (A6 (E3 (ixL K) (E3 (ixL K) (pv 9) B4 (fun _ _=>rfl)) (Td Jn B4) (fun _ _=>rfl)) A9))))) (B1 (I0 (B9 Xf (D0 (O7 K) T.b_len O3 (A6 (E3 (ixL K) (pv 9) B4 (fun _ _=>rfl)) A9)) B4 (C8 _)) (B0 (C7 (Sy K PySem.F.plainAttrs_list PySem.F.slot_list_pop PySem.F.type_list_pop Tf (E3 (ixL K) (pv 9) B4 (fun _ _=>rfl))))
   (B1 (C7 (C6 (E3 (ixL K) (pv 9) B4 (fun _ _=>rfl)) T.clDp T.mDp_back.m G_Dp_back (hr.mono (by decide)) T.mDp_back.b .nil F0)))) C1)))
   (B1 (I0 (U5 (M0 (E4 T.law_all_right G_law_all_right (hr.mono (by decide)) (A6 (pv 2) A9)))) (B1 (C0 Gr)) C1))))))))))))
   (B1 (C0 Gr))),?_⟩
  refine ⟨_,rfl,u,_,rfl,.inl hS,_,_,rfl,_,_,rfl,_,rfl,?_⟩
  have hz:∀ l:Int,0<=l->∃ z:Nat,(if (if (3:Int) < l then 3 else l) > 1 then (if (3:Int) < l then 3 else l) else 1) = (z:Int)/\z<=3:=fun l h0=>by
   by_cases h1:(3:Int) < l
   ·rw [if_pos h1]; exact ⟨3,by decide,by decide⟩
   ·rw [if_neg h1]
    by_cases h2:l > 1
    ·rw [if_pos h2]; exact ⟨l.toNat,by omega,by omega⟩
    ·rw [if_neg h2]; exact ⟨1,by decide,by decide⟩
  obtain ⟨z,ez,hz⟩:=hz ((xs.map V.int).length:Int) (by omega)
  rw [ez]
  refine ⟨by omega,by omega,?_⟩
  rw [Int.toNat_natCast]
  refine Q4 (fun i σ H1=>(∃ v1 v2 v3 v4 v5 v6 v7 v8 v9 v10,σ = [some (.ref u),v1,v2,v3,v4,v5,v6,v7,v8,v9,v10])/\Same H H1) ?_ ?_ ?_
  ·exact ⟨⟨_,_,_,_,_,_,_,_,_,_,rfl⟩,fun b o e=>e⟩
  ·rintro i σ H1 hi ⟨⟨v1,v2,v3,v4,v5,v6,v7,v8,v9,v10,rfl⟩,s1⟩ D1 hD1 hrt1
   rw [Int.zero_add]
   refine Qp fun N1 hN1=>?_
   refine ⟨Nat.zero_le _,fun sm hsm=>?_⟩
   have u0:=Same.new (o:=.lst []) hsm
   have f0:(upd H1 sm (.lst [])) sm = some (.lst []):=A7
   generalize upd H1 sm (.lst []) = H2 at u0 f0 ⊢
   refine hN1 _ _ (B6 fun N2 hN2=>?_)
   refine ex1 rfl (ex1 rfl ⟨u,xs,i,rfl,((s1.trans u0).at u).seqL hS,by omega,fun p H3 hp s3 L3=>?_⟩)
   have np:sm ≠ p:=A8 f0 hp
   have f3:=s3 _ _ f0
   have hp1:H1 p = none:=u0.free hp
   refine hN2 _ _ (B6 fun N3 hN3=>?_)
   refine ex1 rfl (ex1 rfl ⟨p,_,rfl,L3,by omega,fun d1 H4 hd1 k4 L4=>⟨_,_,rfl,?_⟩⟩)
   obtain ⟨e1,he1,le1,pe1⟩:=zCb hd1
   rw [he1]
   refine ⟨p,_,e1,rfl,L4,by omega,by omega,fun n ss H5 hn k5 en l5 No Nn L5=>?_⟩
   have k35:=k4.trans k5
   have es0:ES T.CDp T.CWeb H1 H5 sm p (0 + 3 + e1) 1 []:=⟨fun b o e=>Sm1 k35 (s3 _ _ (u0 _ _ e)) (A8 e hp1),Sm1 k35 f3 np,fun e he=>absurd he List.not_mem_nil,List.Pairwise.nil,fun e he=>absurd he List.not_mem_nil,L5,hp1,hsm,np,fun e he=>absurd he List.not_mem_nil⟩
   clear k35 k5 k4 L5 L4 L3 s3 u0 f0 f3
   refine hN3 _ _ (B6 fun N4 hN4=>?_)
   refine ex1 rfl ⟨by decide,by decide,?_⟩
   refine Q4 (n:=2) (fun t σ HX=>∃ (c:Int) (es:List Ent) (n:Addr) (ss:List Str) (v5 v6 v7 v8:Option V),σ = [some (.ref u),some (.int (i:Int)),some (.ref sm),some (.ref p),some (.ref n),v5,v6,v7,v8,v9,v10]/\ES T.CDp T.CWeb H1 HX sm p c 1 es/\c<=100 + 2000 * (t:Int)/\HX n = some (.lst (ss.map V.str))/\S8 ss/\(∀ x ∈ ss,x ≠ "none")/\0 < ss.length/\ss.length<=10/\es.length = 2 * t - t / 2) ?_ ?_ ?_
   ·exact ⟨_,[],n,ss,_,_,_,_,rfl,es0,by omega,en,No,Nn,by omega,by omega,rfl⟩
   ·rintro t σ HX ht ⟨c,es,n,ss,v5,v6,v7,v8,rfl,hE,hc,en,No,Nn,l0,l10,le⟩ D2 hD2 hrt2
    rw [Int.zero_add]
    refine Qp fun M1 hM1=>?_
    have rest:∀ (c:Int) (n:Addr) (ss:List Str) (G:Hp),ES T.CDp T.CWeb H1 G sm p c 1 es->c<=200 + 2000 * (t:Int)->G n = some (.lst (ss.map V.str))->S8 ss->(∀ x ∈ ss,x ≠ "none")->0 < ss.length->ss.length<=10 ->
      M1 [some (.ref u),some (.int (i:Int)),some (.ref sm),some (.ref p),some (.ref n),some (.int (t:Int)),v6,v7,v8,v9,v10] G:=by
     intro c n ss G hE hc en No Nn l0 l10
     refine hM1 _ _ (B6 fun M2 hM2=>?_)
     refine ex1 rfl (ex1 rfl ⟨p,n,_,ss,rfl,hE.L,by omega,en,No,by omega,fun a ps c5 G1 hst k1 ea pa Ok hc5 L1=>?_⟩)
     have nsm:n ≠ sm:=M8 en hE.at_ fun z=>Ej (fun w=>by rw [w] at l0; exact absurd l0 (by decide)) (HO.lst.inj z)
     have en1:=Sm1 k1 en (hE.L.ne en)
     have asm:a ≠ sm:=(A8 hE.at_ hst).symm
     have hE1:=hE.drawn k1 L1
     refine hM2 _ _ (B6 fun M3 hM3=>?_)
     refine ex1 rfl (ex1 rfl ?_)
     intro x dx nx ndx nex
     have s0:Same G1 (upd (upd G1 dx (.own x)) x (.ins T.CWeb dx [])):=fun b o e=>by
      rw [B2 (A8 e nx),B2 (A8 e ndx)]
      exact e
     refine ⟨x,dx,n,ss,a,ps,rfl,A7,.inl (SqL.of (s0 _ _ en1)),No,s0 _ _ ea,J3 s0 pa,Ok,fun ns qs G2 pn srn pq srq k2 _ CZ=>⟨rfl,?_⟩⟩
     have s12:Same G1 G2:=fun b o e=>k2 b o (s0 b o e) (by simpa using A8 e nx)
     have W2:=(CZ sm _ (.own sm) (s0 _ _ hE1.at_)).without
     have hE2:=hE1.same s12
     have S2:SP G2 a qs ps:=⟨s12 _ _ ea,J3 s12 pa,srq,pq.map _,Ok.len⟩
     have en2:=s12 _ _ en1
     have hN:∀ y ∈ ns,M7 y = true:=fun y hy=>No.1 y (pn.mem_iff.mp hy)
     refine hM3 _ _ (B6 fun M4 hM4=>?_)
     refine ex1 rfl (B7 rfl rfl (ex1 rfl ⟨by omega,by omega,?_⟩))
     rw [show ((2:Int) - (t:Int)).toNat = 2 - t by omega]
     refine Q4 (n:=2 - t) (fun j σ HY=>∃ (c:Int) (es':List Ent) (v8:Option V),σ = [some (.ref u),some (.int (i:Int)),some (.ref sm),some (.ref p),some (.ref n),some (.int (t:Int)),some (.ref a),some (.ref x),v8,v9,v10]/\ES T.CDp T.CWeb H1 HY sm p c 1 es'/\c<=1200 + 2000 * (t:Int) + 2 * (j:Int)/\WebAt T.CWeb (er HY sm) x ns qs/\HY n = some (.lst (ss.map V.str))/\SP HY a qs ps/\es'.length = es.length + j) ?_ ?_ ?_
     ·exact ⟨c5,es,_,rfl,hE2,by omega,W2,en2,S2,rfl⟩
     ·rintro j σ HY hj ⟨c',es',v8,rfl,hY,hc',WY,enY,SY,le'⟩ D3 hD3 _
      rw [Int.zero_add]
      refine ex1 rfl ⟨.inl ⟨rfl,_,SqL.of hY.at_⟩,?_⟩
      refine ex1 rfl (ex1 rfl (ex1 rfl (ex1 rfl ⟨p,c',x,n,a,ns,qs,ps,ss,rfl,hY.L,by omega,WY.same (fun b o e=>(Bg e).2),enY,pn,hN,l0,by omega,SY,fun e HZ kZ LZ eZ fl fn fo l1 es1=>?_⟩)))
      have hZ:=hY.drawn kZ LZ
      refine ⟨sm,B7 rfl rfl ⟨hZ.at_,by unfold Nr; rw [List.length_map,sizeLine_eq]; omega,?_⟩⟩
      refine hD3 _ _ ⟨_,es' ++ [e],_,rfl,hY.add kZ LZ (by decide) eZ fl fn (by rw [es1]; exact asm) l1,by omega,Yp WY hY.L np (fun b o nbp nbs eb=>by rw [B2 nbs]; exact kZ b o eb (by simpa using nbp)),(B2 nsm).trans (Sm1 kZ enY (hY.L.ne enY)),⟨(B2 asm).trans (Sm1 kZ SY.at_ (hY.L.neP SY.at_)),fun r hr=>?_,SY.so,SY.kq,SY.len⟩,by rw [List.length_append,List.length_singleton]; omega⟩
      have pr:=Cn (SY.pin r hr) hY.L kZ
      exact (B2 (M8 pr hZ.at_ (by intro z; cases z))).trans pr
     ·rintro σ HY ⟨c',es',v8,rfl,hY,hc',WY,enY,SY,le'⟩
      refine hM4 _ _ (B6 fun M5 hM5=>?_)
      have WY:=WY.same (fun b o e=>(Bg e).2)
      refine ex1 rfl ⟨x, "none", "firm",ns,qs,rfl,WY,fun z=>Nn _ (pn.mem_iff.mp z) rfl,fun HA sA=>?_⟩
      refine ⟨rfl,ex1 rfl (O4 ?_)⟩
      refine ex1 rfl ⟨x, "", "some",ns,qs,rfl,WY.same sA,fun z=>absurd (hN _ z) (by decide),fun HB sB=>?_⟩
      refine ⟨rfl,ex1 rfl (O4 ?_)⟩
      have sAB:=sA.trans sB
      have hB:=hY.same sAB
      have WB:=WY.same sAB
      have enB:=sAB _ _ enY
      clear hY WY enY SY hE hE1 hE2 W2 S2 en2 sA sB sAB
      obtain ⟨okw,dx',a1,b1,c1,d1,kc,kd,e2,_⟩:=id WB
      refine hM5 _ _ (B6 fun M6 hM6=>?_)
      refine ex1 rfl ⟨x,dx',_,rfl,e2,rfl,x,ns,qs,rfl,WB,fun l hl=>?_⟩
      refine ⟨.inl ⟨rfl,_,SqL.of A7⟩,l,_,rfl,rfl,A7,?_⟩
      rw [r8]
      have ul:=Same.new (o:=.lst []) hl
      generalize upd HB l (.lst []) = HC at ul ⊢
      refine hM6 _ _ ?_
      obtain ⟨y0,hy0⟩:∃ y,ss[0]? = some y:=⟨_,List.getElem?_eq_getElem l0⟩
      refine ex1 rfl ⟨x,dx',_,rfl,ul _ _ e2,rfl,?_⟩
      refine ex1 rfl ⟨n,_,B7 rfl rfl ⟨SqL.of (ul _ _ enB),(Q8 (j:=0) (by rw [List.getElem?_map,hy0]; rfl)),?_⟩⟩
      refine ⟨x,y0,ns,qs,rfl,WB.same ul,pn.mem_iff.mpr (List.mem_of_getElem? hy0),fun l2 hl2=>?_⟩
      have lq:qs.length<=200:=by
       have:=pq.length_eq
       have:=Ok.len
       omega
      have ls:=K6 qs y0
      refine ⟨.inl ⟨rfl,_,SqL.of A7⟩,l2,B7 rfl rfl ⟨A7,by rw [List.length_map,sizeLine_eq]; omega,?_⟩⟩
      rw [r8]
      have s9:=ul.trans (Same.new (o:=.lst ((B3 qs y0).map V.str ++ [.str "zz"])) hl2)
      exact hD2 _ _ ⟨c',es',n,ss,_,_,_,_,rfl,hB.same s9,by omega,s9 _ _ enB,No,Nn,l0,l10,by omega⟩
    refine ex1 rfl ⟨rfl,ex1 rfl (Fz (fun h1=>?_) (fun h1=>O4 (rest c n ss HX hE (by omega) en No Nn l0 l10)))⟩
    refine ex1 rfl (W6 (a:=p) rfl hE.L (by omega) (by decide) (by decide) fun d2 G hd2 k2 L2=>⟨rfl,ex1 rfl (Fz (fun h2=>?_) (fun h2=>rest _ n ss G (hE.drawn k2 L2) (by omega) (Sm1 k2 en (hE.L.ne en)) No Nn l0 l10))⟩)
    have hG:=hE.drawn k2 L2
    refine ex1 rfl (ex1 rfl ⟨p,_,rfl,L2,by omega,fun d3 G3 hd3 k3 L3=>⟨_,_,rfl,?_⟩⟩)
    obtain ⟨e3,he3,le3,pe3⟩:=zCb hd3
    rw [he3]
    refine ⟨p,_,e3,rfl,L3,by omega,by omega,fun n' ss' G4 hn' k4 en' l4 No' Nn' L4=>?_⟩
    exact rest _ n' ss' G4 ((hG.drawn k3 L3).drawn k4 L4) (by omega) en' No' Nn' (by omega) (by omega)
   ·rintro σ HX ⟨c,es,n,ss,v5,v6,v7,v8,rfl,hE,hc,en,No,Nn,l0,l10,le⟩
    refine hN4 _ _ ?_
    have l3:es.length = 3:=by omega
    clear le l0 l10 Nn No en hN1 hN2 hN3 hN4
    refine ex1 rfl ⟨by decide,by decide,?_⟩
    refine Q4 (n:=12) (fun j σ HY=>∃ (c:Int) (es:List Ent) (v5 v9 v10:Option V),σ = [some (.ref u),some (.int (i:Int)),some (.ref sm),some (.ref p),some (.ref n),v5,v6,v7,v8,v9,v10]/\ES T.CDp T.CWeb H1 HY sm p c (1 + j) es/\c<=5000 + 2 * (j:Int)/\es.length = 3) ?_ ?_ ?_
    ·exact ⟨c,es,_,_,_,rfl,hE,by omega,l3⟩
    ·rintro j σ HY hj ⟨c',es',v5,v9,v10,rfl,hY,hc',l3⟩ D2 hD2 hrt2
     rw [Int.zero_add]
     refine Qp fun M1 hM1=>?_
     refine ex1 rfl (ex1 rfl (W6 (a:=p) rfl hY.L (by omega) (by decide) (by decide) fun d1 G1 hd1 k1 L1=>?_))
     obtain ⟨e,he⟩:∃ e,es'[d1]? = some e:=⟨_,List.getElem?_eq_getElem (by omega)⟩
     have h1:=(hY.drawn k1 L1).lens (show 1 + j<=2 + j by omega)
     have hm:=List.mem_of_getElem? he
     have li1:=hY.len e hm
     refine ⟨sm,_,B7 rfl rfl ⟨SqL.of h1.at_,Q8 (by unfold Nr; rw [List.getElem?_map,he]; rfl),?_⟩⟩
     have A1:=h1.ea e hm
     have okm:∀ y ∈ C9 e.f e.ns e.qs e.li,M7 y = true:=fun y hy=>A1.nms y (Ef A1.W.ok.mem hy)
     refine hM1 _ _ (B6 fun M2 hM2=>?_)
     refine ex1 rfl ⟨e.o,_,B7 rfl rfl ⟨SqL.of A1.at_,rfl,?_⟩⟩
     refine ex1 rfl ⟨e.o,_,B7 rfl rfl ⟨SqL.of A1.at_,rfl,?_⟩⟩
     refine ex1 rfl ⟨e.o,_,B7 rfl rfl ⟨SqL.of A1.at_,rfl,?_⟩⟩
     refine ⟨e.f,e.st,e.nm,e.ns,e.qs,e.ps,e.li,rfl,A1.S,A1.W.ok,A1.nms,A1.nam,A1.ne,A1.mem,by omega,fun m G2 s2 hm2 em2=>?_⟩
     refine hM2 _ _ (B6 fun M3 hM3=>?_)
     have rest:∀ (G:Hp) (c2:Int) (es2:List Ent),ES T.CDp T.CWeb H1 G sm p c2 (2 + j) es2->c2<=c' + 2->es2.length = 3->M3 [some (.ref u),some (.int (i:Int)),some (.ref sm),some (.ref p),some (.ref n),some (.int (j:Int)),v6,v7,v8,some (.ref e.o),some (.ref m)] G:=by
      intro G c2 es2 hG hc2 l32
      refine hM3 _ _ ?_
      refine ex1 rfl ⟨sm,sm :: zs es2,es2,rfl,hG.at_,fun a ha=>⟨hG.ea a ha,by have:=hG.len a ha; omega⟩,by omega,fun G' s'=>?_⟩
      refine ⟨_,rfl,O4 ?_⟩
      exact hD2 _ _ ⟨c2,es2,_,_,_,rfl,(hG.same s').lens (by omega),by omega,l32⟩
     have h2:=h1.same s2
     have mp:m ≠ p:=(L1.nn' hm2)
     refine ex1 rfl ⟨Nat.zero_le _,fun z hz=>?_⟩
     have uz:=Same.new (o:=.lst []) hz
     refine Vx (uz _ _ em2) okm A7 ⟨_,rfl,?_⟩
     have h3:=h2.same uz
     have em3:=uz _ _ em2
     generalize upd G2 z (.lst []) = G3 at h3 em3 ⊢
     have A3:=h3.ea e hm
     have no:e.o ≠ e.nm:=M8 A3.at_ A3.nam fun z=>Hr (by intro y w; cases w) (HO.lst.inj z).symm
     have ls:∀ li',(es'.set d1 { e with li:=li' }).length = 3:=fun li'=>by rw [List.length_set]; exact l3
     clear h1 h2 uz A1 hz s2 hm2 em2 hY
     by_cases c1:C9 e.f e.ns e.qs e.li = []
     ·rw [decide_eq_true c1]
      refine O4 ?_
      refine ex1 rfl ⟨e.o,_,B7 rfl rfl ⟨SqL.of A3.at_,rfl,?_⟩⟩
      refine ⟨e.nm,_,rfl,.inl (SqL.of A3.nam),B7 rfl rfl (ex1 rfl (Fz (fun h5=>?_) (fun h5=>rest G3 _ es' h3 (by omega) l3)))⟩
      rw [List.length_map] at h5
      have h5:(1:Int) < (e.li.length:Int):=of_decide_eq_true h5
      refine B6 fun M4 hM4=>?_
      refine ex1 rfl ⟨e.o,_,B7 rfl rfl ⟨SqL.of A3.at_,rfl,?_⟩⟩
      refine ⟨.inl ⟨rfl,_,SqL.of A3.nam⟩,e.nm,_,_,rfl,rfl,A3.nam,List.getElem?_eq_getElem (by rw [List.length_map]; omega),?_⟩
      rw [<-List.map_dropLast]
      refine hM4 _ _ ?_
      refine ex1 rfl ⟨e.o,_,B7 rfl rfl ⟨SqL.of ((B2 no).trans A3.at_),rfl,?_⟩⟩
      have D5:=A3.Dup (by omega) (o:=.lst (e.li.dropLast.map V.str))
      obtain ⟨dd,ed⟩:=D5.ins
      refine ⟨e.d,dd,_,rfl,ed,rfl,e.f,e.d,e.x,e.l,e.ns,e.qs,e.li,rfl,D5,by omega,?_⟩
      refine rest _ _ _ (h3.step he (li':=e.li.dropLast) (fun y hy=>A3.mem y ((List.dropLast_sublist _).subset hy)) (fun w=>by have:=congrArg List.length w; rw [List.length_dropLast,List.length_nil] at this; omega) (by rw [List.length_dropLast]; omega) (fun b o hb q=>?_) A7 ((B2 A3.nl.symm).trans A7)) (by omega) (ls _)
      rw [B2 (fun w=>hb (by rw [w]; simp)),B2 (fun w=>hb (by rw [w]; simp))]
      exact q
     ·rw [decide_eq_false c1]
      have hp:0 < (C9 e.f e.ns e.qs e.li).length:=List.length_pos_iff.mpr c1
      have lmm:((C9 e.f e.ns e.qs e.li).map V.str).length = (C9 e.f e.ns e.qs e.li).length:=List.length_map ..
      have lmv:(C9 e.f e.ns e.qs e.li).length<=200:=Jw A3.W.ok e.li
      refine T6 (B6 fun M4 hM4=>?_)
      refine ex1 rfl ⟨e.o,_,B7 rfl rfl ⟨SqL.of A3.at_,rfl,?_⟩⟩
      refine ⟨.inl ⟨rfl,_,SqL.of A3.nam⟩,?_⟩
      refine ex1 rfl (ex1 rfl (ex1 rfl ⟨m,_,rfl,.inl (SqL.of em3),W6 (a:=p) rfl h3.L (by omega) (by rw [lmm]; omega) (by rw [lmm]; omega) fun e8 G4 he8 k4 L4=>?_⟩))
      rw [lmm] at he8
      obtain ⟨y,hy⟩:∃ y,(C9 e.f e.ns e.qs e.li)[e8]? = some y:=⟨_,List.getElem?_eq_getElem (by omega)⟩
      have my:=List.mem_of_getElem? hy
      have h4:=h3.drawn k4 L4
      have A4:=h4.ea e hm
      refine ⟨m,_,B7 rfl rfl ⟨SqL.of (Sm1 k4 em3 mp),Q8 (by rw [List.getElem?_map,hy]; rfl),?_⟩⟩
      refine ⟨e.nm,B7 rfl rfl ⟨A4.nam,by rw [List.length_map,sizeLine_eq]; omega,?_⟩⟩
      refine hM4 _ _ ?_
      refine ex1 rfl ⟨e.o,_,B7 rfl rfl ⟨SqL.of ((B2 no).trans A4.at_),rfl,?_⟩⟩
      have D5:=A4.Dup (by omega) (o:=.lst (e.li.map V.str ++ [V.str y]))
      obtain ⟨dd,ed⟩:=D5.ins
      refine ⟨e.d,dd,_,rfl,ed,rfl,?_⟩
      refine ex1 rfl ⟨e.o,_,B7 rfl rfl ⟨SqL.of ((B2 no).trans A4.at_),rfl,?_⟩⟩
      have la:atI (e.li.map V.str ++ [V.str y]) (-1) = some (.str y):=by
       have:=Ct (li:=e.li ++ [y]) (by simp)
       rw [List.map_append,J4,List.getLast?_concat] at this
       exact this
      refine ⟨_,rfl,e.nm,_,B7 rfl rfl ⟨SqL.of A7,la,?_⟩⟩
      refine ⟨e.f,e.d,y,e.x,e.l,e.ns,e.qs,e.li,rfl,D5,my,fun G6 s6=>?_⟩
      refine rest _ _ _ (h4.step he (li':=e.li ++ [y]) (fun z hz=>?_) (by simp) (by rw [List.length_append,List.length_singleton]; omega) (fun b o hb q=>?_) A7 ((B2 A3.nl.symm).trans (s6 _ _ (by rw [A7,List.map_append]; rfl)))) (by omega) (ls _)
      ·rcases List.mem_append.mp hz with hz | hz
       ·exact A3.mem z hz
       ·rw [List.mem_singleton.mp hz]; exact Ef A3.W.ok.mem my
      ·rw [B2 (fun w=>hb (by rw [w]; simp))]
       refine s6 _ _ ?_
       rw [B2 (fun w=>hb (by rw [w]; simp))]
       exact q
    ·rintro σ HY ⟨c',es',v5,v9,v10,rfl,hY,hc',l3⟩
     exact hD1 _ _ ⟨⟨_,_,_,_,_,_,_,_,_,_,rfl⟩,s1.trans hY.s1⟩
  ·rintro σ H1 ⟨_,s1⟩
   exact q H1
end
end Sw
namespace Sw
open PySem L2
section
variable {K:PySem.W.Frag} {h:Heap} {mg:Str->Option Value}
noncomputable def fn_mk {x:Str} {st:Stmt} {ps:List Str} {f:Addr} {oc:Value} {od an:Option Addr} {osl:Array (Option Value)} {kV doc pm cdv ct:Value} (X:K.In h) (G:h.Ns mainGlobals mg) (a:PySem.W.nsIn K mainGlobals x = some (some (.ref f)))
  (l:K.lookup f = some ⟨oc,od,.func (PySem.W.fnOf x x (Q2 st) (M9 st) (B5 st) .none kV doc pm an cdv ct),osl⟩) (c:PySem.W.codeIn K cdv x = true) (k:PySem.W.keepIn K (.ref f) = true)
  (hb:∀ (kV doc pm:Value) (an:Option Addr) (cdv ct:Value) (us:List Value),us.length = ps.length->bindArgs (PySem.W.fnOf x x (Q2 st) (M9 st) (B5 st) .none kV doc pm an cdv ct) ⟨us,[]⟩ = pure (ps.zip us)):Fn K mg x st ps :=
 ⟨f,_,fun_mk l c k,(fun_mk l c k).binds hb,PySem.W.mg_of X G a⟩
noncomputable def mt_mk {C:Addr} {x q:Str} {st:Stmt} {ps:List Str} {f:Addr} {oc:Value} {od an:Option Addr} {osl:Array (Option Value)} {kV doc pm cdv ct:Value} (a:PySem.W.findIn K (.ref C) x = some (some (.ref f))) (i:PySem.W.isFn K (.ref f) = true)
  (l:K.lookup f = some ⟨oc,od,.func (PySem.W.fnOf x q (Q2 st) (M9 st) (B5 st) .none kV doc pm an cdv ct),osl⟩) (c:PySem.W.codeIn K cdv q = true) (k:PySem.W.keepIn K (.ref f) = true)
  (hb:∀ (kV doc pm:Value) (an:Option Addr) (cdv ct:Value) (us:List Value),us.length = ps.length->bindArgs (PySem.W.fnOf x q (Q2 st) (M9 st) (B5 st) .none kV doc pm an cdv ct) ⟨us,[]⟩ = pure (ps.zip us)):Mt K C x q st ps :=
 ⟨f,_,fun_mk l c k,(fun_mk l c k).binds hb,⟨a,i,k⟩⟩
theorem str_mk {x z:Str} {v:Value} (X:K.In h) (G:h.Ns mainGlobals mg) (a:PySem.W.nsIn K mainGlobals x = some (some v)) (e:∃ t,v = .str z t):∃ t,mg x = some (.str z t):=by
 obtain ⟨t,rfl⟩:=e
 exact ⟨t,PySem.W.mg_of X G a⟩
theorem int_mk {x:Str} {z:Int} {v:Value} (X:K.In h) (G:h.Ns mainGlobals mg) (a:PySem.W.nsIn K mainGlobals x = some (some v)) (e:∃ t,v = .int z t):∃ t,mg x = some (.int z t):=by
 obtain ⟨t,rfl⟩:=e
 exact ⟨t,PySem.W.mg_of X G a⟩
theorem len1 {us:List Value} (h:us.length = 1):∃ a,us = [a]:=List.length_eq_one_iff.mp h
theorem len2 {us:List Value} (h:us.length = 2):∃ a b,us = [a,b]:=by
 cases us with
 | nil=>cases h
 | cons a r=>obtain ⟨b,rfl⟩:=len1 (Nat.succ.inj h); exact ⟨a,b,rfl⟩
theorem len3 {us:List Value} (h:us.length = 3):∃ a b c,us = [a,b,c]:=by
 cases us with
 | nil=>cases h
 | cons a r=>obtain ⟨b,c,rfl⟩:=len2 (Nat.succ.inj h); exact ⟨a,b,c,rfl⟩
theorem len4 {us:List Value} (h:us.length = 4):∃ a b c d,us = [a,b,c,d]:=by
 cases us with
 | nil=>cases h
 | cons a r=>obtain ⟨b,c,d,rfl⟩:=len3 (Nat.succ.inj h); exact ⟨a,b,c,d,rfl⟩
theorem ni_mk {C:Addr} (h:PySem.W.findIn K (.ref C) "__init__" = some (some (.builtin "ValueError.__init__"))):PySem.W.findIn K (.ref C) "__init__" = some (some (.builtin "ValueError.__init__")):=h
theorem noattr_mk {C:Addr} {f:Str} (h:PySem.W.findIn K (.ref C) f = some none):NoAttr K C f:=h
end
theorem all_mk {l:PySem.W.OpenLaw} {w:World} {K:PySem.W.Frag} {h:Heap} {mg:Str->Option Value} {fa f:Addr} {oc:Value} {od an:Option Addr} {osl:Array (Option Value)} {kV doc pm cdv ct:Value} (X:K.In h) (G:h.Ns mainGlobals mg) (hfa:mg "law" = some (.ref fa))
  (T:Tx K mg) (a:PySem.W.nsIn K mainGlobals "law" = some (some (.ref f))) (lk:K.lookup f = some ⟨oc,od,.func (PySem.W.fnOf "law" "law" (Q2 s_law) (M9 s_law) (B5 s_law) .none kV doc pm an cdv ct),osl⟩) (c:PySem.W.codeIn K cdv "law" = true) (k:PySem.W.keepIn K (.ref f) = true) :
  ∃ fd:FuncData,(∀ (s:Shared) (v:Value),BindsTo s fd ⟨[v],[]⟩ [("_law_script",v)])/\∀ base:Heap,K.In base->base.Ns mainGlobals mg->FnOk l.prog w K mg base CX0 11 fa fd ["_law_script"] (Ju K):=by
 have e:=hfa.symm.trans (PySem.W.mg_of X G a)
 cases e
 exact ⟨PySem.W.fnOf "law" "law" (Q2 s_law) (M9 s_law) (B5 s_law) .none kV doc pm an cdv ct,fun s v=>.of_eq rfl,fun base _ _=>Yu T (fun_mk lk c k)⟩
theorem walk {l:PySem.W.OpenLaw} {q:Program} {loose:List Str} {XP:(Str->Option Value)->Heap->Prop} {YP:World->Heap->Prop} {d:DefRec} {K:Params->PySem.W.Frag} (hn:l.most = some 63) (hdf:d.params.defaults = [])
  (hY:∀ (w:World) (h:Heap),YP w h->(K w.params).In h)
  (F:∀ (w:World) (mg:Str->Option Value) (fa:Addr) (h:Heap),(K w.params).In h->h.Ns mainGlobals mg->mg d.name = some (.ref fa) ->
   ∃ fd:FuncData,(∀ (s:Shared) (u:Value),BindsTo s fd ⟨[u],[]⟩ [("_law_script",u)])/\∀ base:Heap,(K w.params).In base->base.Ns mainGlobals mg->FnOk l.prog w (K w.params) mg base CX0 11 fa fd ["_law_script"] (Ju (K w.params))) :
  PySem.W.WalkO q loose XP YP l.row.toRowW d [] (fun f vs=>PySem.call f vs) :=
 L2.walk_of (n:=63) (k:=11) (x := "_law_script") (CX:=fun _=>CX0) (sp:=fun w=>Ju (K w.params)) hn (by decide) hdf ⟨rfl,by decide,by decide⟩ hY F (fun _ _ a ns hl _ hS=>⟨a,ns,rfl,hS,hl,fun _=>rfl⟩) fun _ _ _ _ _ z=>z
end Sw
open PySem PySem.W PyProof.Rows
set_option maxRecDepth 100000 in
set_option maxHeartbeats 0 in
theorem PySem.Challenge.cw_strikeweave_k49_disputes_by_turns_holds : PySem.Challenge.rw_strikeweave_k49_disputes_by_turns.Holds := by
 w_on; o_law; k_head; (case hw=>w_witness2)
 k_fill
 refine Sw.walk (l:=PySem.Challenge.rw_strikeweave_k49_disputes_by_turns) rfl rfl (fun w h Y=>PySem.W.kIn_of Y) ?F
 case F =>
  intro w mg fa h KX G hmg
  refine' Sw.all_mk KX G hmg (Sw.Tx.mk (Sw.fn_mk KX G ?a1 ?l2 ?c3 ?k4 (fun _ _ _ _ _ _ us hl=>by obtain ⟨a,b,rfl⟩:=Sw.len2 hl; rfl))
   (Sw.fn_mk KX G ?a5 ?l6 ?c7 ?k8 (fun _ _ _ _ _ _ us hl=>by obtain ⟨a,b,rfl⟩:=Sw.len2 hl; rfl))
   (Sw.fn_mk KX G ?a9 ?l10 ?c11 ?k12 (fun _ _ _ _ _ _ us hl=>by obtain ⟨a,b,rfl⟩:=Sw.len2 hl; rfl))
   (Sw.fn_mk KX G ?a13 ?l14 ?c15 ?k16 (fun _ _ _ _ _ _ us hl=>by obtain ⟨a,rfl⟩:=Sw.len1 hl; rfl))
   (Sw.fn_mk KX G ?a17 ?l18 ?c19 ?k20 (fun _ _ _ _ _ _ us hl=>by obtain ⟨a,rfl⟩:=Sw.len1 hl; rfl))
   (Sw.fn_mk KX G ?a21 ?l22 ?c23 ?k24 (fun _ _ _ _ _ _ us hl=>by obtain ⟨a,b,rfl⟩:=Sw.len2 hl; rfl))
   (Sw.fn_mk KX G ?a25 ?l26 ?c27 ?k28 (fun _ _ _ _ _ _ us hl=>by obtain ⟨a,b,rfl⟩:=Sw.len2 hl; rfl))
   (Sw.fn_mk KX G ?a29 ?l30 ?c31 ?k32 (fun _ _ _ _ _ _ us hl=>by obtain ⟨a,b,rfl⟩:=Sw.len2 hl; rfl))
   (Sw.fn_mk KX G ?a33 ?l34 ?c35 ?k36 (fun _ _ _ _ _ _ us hl=>by obtain ⟨a,b,rfl⟩:=Sw.len2 hl; rfl))
   (Sw.fn_mk KX G ?a37 ?l38 ?c39 ?k40 (fun _ _ _ _ _ _ us hl=>by obtain ⟨a,b,rfl⟩:=Sw.len2 hl; rfl))
   (Sw.fn_mk KX G ?a41 ?l42 ?c43 ?k44 (fun _ _ _ _ _ _ us hl=>by obtain ⟨a,b,rfl⟩:=Sw.len2 hl; rfl))
   (Sw.fn_mk KX G ?a45 ?l46 ?c47 ?k48 (fun _ _ _ _ _ _ us hl=>by obtain ⟨a,rfl⟩:=Sw.len1 hl; rfl))
   (Sw.fn_mk KX G ?a49 ?l50 ?c51 ?k52 (fun _ _ _ _ _ _ us hl=>by obtain ⟨a,b,rfl⟩:=Sw.len2 hl; rfl))
   (Sw.fn_mk KX G ?a53 ?l54 ?c55 ?k56 (fun _ _ _ _ _ _ us hl=>by obtain ⟨a,b,rfl⟩:=Sw.len2 hl; rfl))
   (Sw.fn_mk KX G ?a57 ?l58 ?c59 ?k60 (fun _ _ _ _ _ _ us hl=>by obtain ⟨a,b,rfl⟩:=Sw.len2 hl; rfl))
   (Sw.fn_mk KX G ?a61 ?l62 ?c63 ?k64 (fun _ _ _ _ _ _ us hl=>by obtain ⟨a,b,c,rfl⟩:=Sw.len3 hl; rfl))
   (Sw.fn_mk KX G ?a65 ?l66 ?c67 ?k68 (fun _ _ _ _ _ _ us hl=>by obtain ⟨a,b,c,rfl⟩:=Sw.len3 hl; rfl))
   (Sw.fn_mk KX G ?a69 ?l70 ?c71 ?k72 (fun _ _ _ _ _ _ us hl=>by obtain ⟨a,b,c,d,rfl⟩:=Sw.len4 hl; rfl))
   (Sw.fn_mk KX G ?a73 ?l74 ?c75 ?k76 (fun _ _ _ _ _ _ us hl=>by obtain ⟨a,b,c,rfl⟩:=Sw.len3 hl; rfl))
   (Sw.fn_mk KX G ?a77 ?l78 ?c79 ?k80 (fun _ _ _ _ _ _ us hl=>by obtain ⟨a,b,c,d,rfl⟩:=Sw.len4 hl; rfl))
   (Sw.fn_mk KX G ?a81 ?l82 ?c83 ?k84 (fun _ _ _ _ _ _ us hl=>by obtain ⟨a,rfl⟩:=Sw.len1 hl; rfl))
   _
   ⟨?g86,?g87,?g88,?g89⟩
   (PySem.W.mg_of KX G ?q85)
   (Sw.noattr_mk ?n90)
   (Sw.noattr_mk ?n91)
   (Sw.noattr_mk ?n92)
   (Sw.noattr_mk ?n93)
   _
   _
   (L2.fun_mk ?l96 ?c97 ?k98)
   (L2.Fun.binds (L2.fun_mk ?l96 ?c97 ?k98) (fun _ _ _ _ _ _ us hl=>by obtain ⟨a,b,c,rfl⟩:=Sw.len3 hl; rfl))
   ⟨?g99,?a94,?i95,?k100⟩
   (Sw.mt_mk ?a101 ?i102 ?l103 ?c104 ?k105 (fun _ _ _ _ _ _ us hl=>by obtain ⟨a,rfl⟩:=Sw.len1 hl; rfl))
   (Sw.mt_mk ?a106 ?i107 ?l108 ?c109 ?k110 (fun _ _ _ _ _ _ us hl=>by obtain ⟨a,rfl⟩:=Sw.len1 hl; rfl))
   (Sw.mt_mk ?a111 ?i112 ?l113 ?c114 ?k115 (fun _ _ _ _ _ _ us hl=>by obtain ⟨a,b,rfl⟩:=Sw.len2 hl; rfl))
   (Sw.mt_mk ?a116 ?i117 ?l118 ?c119 ?k120 (fun _ _ _ _ _ _ us hl=>by obtain ⟨a,b,rfl⟩:=Sw.len2 hl; rfl))
   (Sw.mt_mk ?a121 ?i122 ?l123 ?c124 ?k125 (fun _ _ _ _ _ _ us hl=>by obtain ⟨a,b,rfl⟩:=Sw.len2 hl; rfl))
   _
   ⟨?g127,?g128,?g129,?g130⟩
   (PySem.W.mg_of KX G ?q126)
   (Sw.noattr_mk ?n131)
   (Sw.noattr_mk ?n132)
   (Sw.noattr_mk ?n133)
   _
   _
   (L2.fun_mk ?l136 ?c137 ?k138)
   (L2.Fun.binds (L2.fun_mk ?l136 ?c137 ?k138) (fun _ _ _ _ _ _ us hl=>by obtain ⟨a,b,c,d,rfl⟩:=Sw.len4 hl; rfl))
   ⟨?g139,?a134,?i135,?k140⟩
   (Sw.mt_mk ?a141 ?i142 ?l143 ?c144 ?k145 (fun _ _ _ _ _ _ us hl=>by obtain ⟨a,rfl⟩:=Sw.len1 hl; rfl))
   (Sw.mt_mk ?a146 ?i147 ?l148 ?c149 ?k150 (fun _ _ _ _ _ _ us hl=>by obtain ⟨a,rfl⟩:=Sw.len1 hl; rfl))
   (Sw.mt_mk ?a151 ?i152 ?l153 ?c154 ?k155 (fun _ _ _ _ _ _ us hl=>by obtain ⟨a,b,rfl⟩:=Sw.len2 hl; rfl))
   (Sw.mt_mk ?a156 ?i157 ?l158 ?c159 ?k160 (fun _ _ _ _ _ _ us hl=>by obtain ⟨a,rfl⟩:=Sw.len1 hl; rfl))
   (Sw.mt_mk ?a161 ?i162 ?l163 ?c164 ?k165 (fun _ _ _ _ _ _ us hl=>by obtain ⟨a,rfl⟩:=Sw.len1 hl; rfl))
   (Sw.mt_mk ?a166 ?i167 ?l168 ?c169 ?k170 (fun _ _ _ _ _ _ us hl=>by obtain ⟨a,rfl⟩:=Sw.len1 hl; rfl))
   (Sw.mt_mk ?a171 ?i172 ?l173 ?c174 ?k175 (fun _ _ _ _ _ _ us hl=>by obtain ⟨a,rfl⟩:=Sw.len1 hl; rfl))
   (Sw.mt_mk ?a176 ?i177 ?l178 ?c179 ?k180 (fun _ _ _ _ _ _ us hl=>by obtain ⟨a,rfl⟩:=Sw.len1 hl; rfl))
   (Sw.mt_mk ?a181 ?i182 ?l183 ?c184 ?k185 (fun _ _ _ _ _ _ us hl=>by obtain ⟨a,rfl⟩:=Sw.len1 hl; rfl))
   (Sw.mt_mk ?a186 ?i187 ?l188 ?c189 ?k190 (fun _ _ _ _ _ _ us hl=>by obtain ⟨a,rfl⟩:=Sw.len1 hl; rfl))
   (Sw.mt_mk ?a191 ?i192 ?l193 ?c194 ?k195 (fun _ _ _ _ _ _ us hl=>by obtain ⟨a,b,rfl⟩:=Sw.len2 hl; rfl))
   _
   _
   (L2.xc_mk ?l197 ?t198 ?k199 ?g200 ?g201)
   (PySem.W.mg_of KX G ?q196)
   _
   _
   (L2.xc_mk ?l203 ?t204 ?k205 ?g206 ?g207)
   (PySem.W.mg_of KX G ?q202)
   _
   _
   (L2.xc_mk ?l209 ?t210 ?k211 ?g212 ?g213)
   (PySem.W.mg_of KX G ?q208)
   _
   _
   (L2.xc_mk ?l215 ?t216 ?k217 ?g218 ?g219)
   (PySem.W.mg_of KX G ?q214)
   _
   _
   (L2.xc_mk ?l221 ?t222 ?k223 ?g224 ?g225)
   (PySem.W.mg_of KX G ?q220)
   _
   _
   (L2.xc_mk ?l227 ?t228 ?k229 ?g230 ?g231)
   (PySem.W.mg_of KX G ?q226)
   _
   _
   (L2.xc_mk ?l233 ?t234 ?k235 ?g236 ?g237)
   (PySem.W.mg_of KX G ?q232)
   _
   _
   (L2.xc_mk ?l239 ?t240 ?k241 ?g242 ?g243)
   (PySem.W.mg_of KX G ?q238)
   _
   _
   (L2.xc_mk ?l245 ?t246 ?k247 ?g248 ?g249)
   (PySem.W.mg_of KX G ?q244)
   ⟨?g250,?g251,?g252,?g253⟩
   ⟨?g254,?g255,?g256,?g257,L2.kit_same _ _⟩
   ?u258
   ?w259
   ?w260
   ?w261
   (Sw.noattr_mk ?n262)
   _
   _
   (L2.fun_mk ?l265 ?c266 ?k267)
   (L2.Fun.binds (L2.fun_mk ?l265 ?c266 ?k267) (fun _ _ _ _ _ _ us hl=>by obtain ⟨a,b,rfl⟩:=Sw.len2 hl; rfl))
   ⟨?a263,?i264,?k267⟩
   ⟨?g268,?g269,?g270,?g271⟩
   ⟨?g272,?g273,?g274,?g275,L2.kit_same _ _⟩
   ?u276
   ?w277
   ?w278
   ?w279
   (Sw.noattr_mk ?n280)
   _
   _
   (L2.fun_mk ?l283 ?c284 ?k285)
   (L2.Fun.binds (L2.fun_mk ?l283 ?c284 ?k285) (fun _ _ _ _ _ _ us hl=>by obtain ⟨a,b,rfl⟩:=Sw.len2 hl; rfl))
   ⟨?a281,?i282,?k285⟩
   ⟨?g286,?g287,?g288,?g289⟩
   ⟨?g290,?g291,?g292,?g293,L2.kit_same _ _⟩
   ?u294
   ?w295
   ?w296
   ?w297
   (Sw.ni_mk ?g298)
   ⟨?g299,?g300,?g301,?g302⟩
   ⟨?g303,?g304,?g305,?g306,L2.kit_same _ _⟩
   ?u307
   ?w308
   ?w309
   ?w310
   (Sw.ni_mk ?g311)
   (Sw.str_mk KX G ?v312 ?e313)
   (Sw.int_mk KX G ?v314 ?e315)
   (PySem.W.mg_none_of KX G ?z316)
   (PySem.W.mg_none_of KX G ?z317)
   (PySem.W.mg_none_of KX G ?z318)
   (PySem.W.mg_none_of KX G ?z319)
   (PySem.W.mg_none_of KX G ?z320)
   (PySem.W.mg_none_of KX G ?z321)
   (PySem.W.mg_none_of KX G ?z322)
   (PySem.W.mg_none_of KX G ?z323)
   (PySem.W.mg_none_of KX G ?z324)
   (PySem.W.mg_none_of KX G ?z325)
   (PySem.W.mg_none_of KX G ?z326)
   (PySem.W.mg_none_of KX G ?z327)
   (PySem.W.mg_none_of KX G ?z328)
   (PySem.W.mg_none_of KX G ?z329)
   (PySem.W.mg_none_of KX G ?z330)
   (PySem.W.mg_none_of KX G ?z331)
   (PySem.W.mg_none_of KX G ?z332)
   (PySem.W.mg_none_of KX G ?z333)) ?aL ?lL ?cL ?kL
  (case a1=>k_is); (case l2=>k_is); (case c3=>k_is); (case k4=>k_is); (case a5=>k_is); (case l6=>k_is)
  (case c7=>k_is); (case k8=>k_is); (case a9=>k_is); (case l10=>k_is); (case c11=>k_is); (case k12=>k_is)
  (case a13=>k_is); (case l14=>k_is); (case c15=>k_is); (case k16=>k_is); (case a17=>k_is); (case l18=>k_is)
  (case c19=>k_is); (case k20=>k_is); (case a21=>k_is); (case l22=>k_is); (case c23=>k_is); (case k24=>k_is)
  (case a25=>k_is); (case l26=>k_is); (case c27=>k_is); (case k28=>k_is); (case a29=>k_is); (case l30=>k_is)
  (case c31=>k_is); (case k32=>k_is); (case a33=>k_is); (case l34=>k_is); (case c35=>k_is); (case k36=>k_is)
  (case a37=>k_is); (case l38=>k_is); (case c39=>k_is); (case k40=>k_is); (case a41=>k_is); (case l42=>k_is)
  (case c43=>k_is); (case k44=>k_is); (case a45=>k_is); (case l46=>k_is); (case c47=>k_is); (case k48=>k_is)
  (case a49=>k_is); (case l50=>k_is); (case c51=>k_is); (case k52=>k_is); (case a53=>k_is); (case l54=>k_is)
  (case c55=>k_is); (case k56=>k_is); (case a57=>k_is); (case l58=>k_is); (case c59=>k_is); (case k60=>k_is)
  (case a61=>k_is); (case l62=>k_is); (case c63=>k_is); (case k64=>k_is); (case a65=>k_is); (case l66=>k_is)
  (case c67=>k_is); (case k68=>k_is); (case a69=>k_is); (case l70=>k_is); (case c71=>k_is); (case k72=>k_is)
  (case a73=>k_is); (case l74=>k_is); (case c75=>k_is); (case k76=>k_is); (case a77=>k_is); (case l78=>k_is)
  (case c79=>k_is); (case k80=>k_is); (case a81=>k_is); (case l82=>k_is); (case c83=>k_is); (case k84=>k_is)
  (case q85=>k_is); (case g86=>k_is); (case g87=>k_is); (case g88=>k_is); (case g89=>k_is); (case n90=>k_is)
  (case n91=>k_is); (case n92=>k_is); (case n93=>k_is); (case a94=>k_is); (case i95=>k_is); (case l96=>k_is)
  (case c97=>k_is); (case k98=>k_is); (case g99=>k_is); (case k100=>k_is); (case a101=>k_is); (case i102=>k_is)
  (case l103=>k_is); (case c104=>k_is); (case k105=>k_is); (case a106=>k_is); (case i107=>k_is); (case l108=>k_is)
  (case c109=>k_is); (case k110=>k_is); (case a111=>k_is); (case i112=>k_is); (case l113=>k_is); (case c114=>k_is)
  (case k115=>k_is); (case a116=>k_is); (case i117=>k_is); (case l118=>k_is); (case c119=>k_is); (case k120=>k_is)
  (case a121=>k_is); (case i122=>k_is); (case l123=>k_is); (case c124=>k_is); (case k125=>k_is); (case q126=>k_is)
  (case g127=>k_is); (case g128=>k_is); (case g129=>k_is); (case g130=>k_is); (case n131=>k_is); (case n132=>k_is)
  (case n133=>k_is); (case a134=>k_is); (case i135=>k_is); (case l136=>k_is); (case c137=>k_is); (case k138=>k_is)
  (case g139=>k_is); (case k140=>k_is); (case a141=>k_is); (case i142=>k_is); (case l143=>k_is); (case c144=>k_is)
  (case k145=>k_is); (case a146=>k_is); (case i147=>k_is); (case l148=>k_is); (case c149=>k_is); (case k150=>k_is)
  (case a151=>k_is); (case i152=>k_is); (case l153=>k_is); (case c154=>k_is); (case k155=>k_is); (case a156=>k_is)
  (case i157=>k_is); (case l158=>k_is); (case c159=>k_is); (case k160=>k_is); (case a161=>k_is); (case i162=>k_is)
  (case l163=>k_is); (case c164=>k_is); (case k165=>k_is); (case a166=>k_is); (case i167=>k_is); (case l168=>k_is)
  (case c169=>k_is); (case k170=>k_is); (case a171=>k_is); (case i172=>k_is); (case l173=>k_is); (case c174=>k_is)
  (case k175=>k_is); (case a176=>k_is); (case i177=>k_is); (case l178=>k_is); (case c179=>k_is); (case k180=>k_is)
  (case a181=>k_is); (case i182=>k_is); (case l183=>k_is); (case c184=>k_is); (case k185=>k_is); (case a186=>k_is)
  (case i187=>k_is); (case l188=>k_is); (case c189=>k_is); (case k190=>k_is); (case a191=>k_is); (case i192=>k_is)
  (case l193=>k_is); (case c194=>k_is); (case k195=>k_is); (case q196=>k_is); (case l197=>k_is); (case t198=>kernel_rfl)
  (case k199=>k_is); (case g200=>k_is); (case g201=>k_is); (case q202=>k_is); (case l203=>k_is); (case t204=>kernel_rfl)
  (case k205=>k_is); (case g206=>k_is); (case g207=>k_is); (case q208=>k_is); (case l209=>k_is); (case t210=>kernel_rfl)
  (case k211=>k_is); (case g212=>k_is); (case g213=>k_is); (case q214=>k_is); (case l215=>k_is); (case t216=>kernel_rfl)
  (case k217=>k_is); (case g218=>k_is); (case g219=>k_is); (case q220=>k_is); (case l221=>k_is); (case t222=>kernel_rfl)
  (case k223=>k_is); (case g224=>k_is); (case g225=>k_is); (case q226=>k_is); (case l227=>k_is); (case t228=>kernel_rfl)
  (case k229=>k_is); (case g230=>k_is); (case g231=>k_is); (case q232=>k_is); (case l233=>k_is); (case t234=>kernel_rfl)
  (case k235=>k_is); (case g236=>k_is); (case g237=>k_is); (case q238=>k_is); (case l239=>k_is); (case t240=>kernel_rfl)
  (case k241=>k_is); (case g242=>k_is); (case g243=>k_is); (case q244=>k_is); (case l245=>k_is); (case t246=>kernel_rfl)
  (case k247=>k_is); (case g248=>k_is); (case g249=>k_is); (case g250=>k_is); (case g251=>k_is); (case g252=>k_is)
  (case g253=>k_is); (case g254=>k_is); (case g255=>k_is); (case g256=>k_is); (case g257=>k_is); (case u258=>kernel_rfl)
  (case w259=>kit_is); (case w260=>kit_is); (case w261=>kit_is); (case n262=>k_is); (case a263=>k_is); (case i264=>k_is)
  (case l265=>k_is); (case c266=>k_is); (case k267=>k_is); (case g268=>k_is); (case g269=>k_is); (case g270=>k_is)
  (case g271=>k_is); (case g272=>k_is); (case g273=>k_is); (case g274=>k_is); (case g275=>k_is); (case u276=>kernel_rfl)
  (case w277=>kit_is); (case w278=>kit_is); (case w279=>kit_is); (case n280=>k_is); (case a281=>k_is); (case i282=>k_is)
  (case l283=>k_is); (case c284=>k_is); (case k285=>k_is); (case g286=>k_is); (case g287=>k_is); (case g288=>k_is)
  (case g289=>k_is); (case g290=>k_is); (case g291=>k_is); (case g292=>k_is); (case g293=>k_is); (case u294=>kernel_rfl)
  (case w295=>kit_is); (case w296=>kit_is); (case w297=>kit_is); (case g298=>k_is); (case g299=>k_is); (case g300=>k_is)
  (case g301=>k_is); (case g302=>k_is); (case g303=>k_is); (case g304=>k_is); (case g305=>k_is); (case g306=>k_is)
  (case u307=>kernel_rfl); (case w308=>kit_is); (case w309=>kit_is); (case w310=>kit_is); (case g311=>k_is); (case v312=>k_is)
  (case e313=>exact ⟨_,rfl⟩); (case v314=>k_is); (case e315=>exact ⟨_,rfl⟩); (case z316=>k_is); (case z317=>k_is); (case z318=>k_is)
  (case z319=>k_is); (case z320=>k_is); (case z321=>k_is); (case z322=>k_is); (case z323=>k_is); (case z324=>k_is)
  (case z325=>k_is); (case z326=>k_is); (case z327=>k_is); (case z328=>k_is); (case z329=>k_is); (case z330=>k_is)
  (case z331=>k_is); (case z332=>k_is); (case z333=>k_is); (case aL=>k_is); (case lL=>k_is); (case cL=>k_is)
  (case kL=>k_is)
