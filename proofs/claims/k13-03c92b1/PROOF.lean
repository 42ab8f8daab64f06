import PyProof.Rows.All
import Wide.All
import OpenK.AllK
import Wide.FinOn
import PyProof.Rows.SortShellK
import KE.KSortTup
import Lean
import PyProof.EqAt
import PyProof.EqKinds
import PyProof.TupleCall
import PyProof.SetRoads
import PyProof.DictRoadsH
import PyProof.IsRules
import PyProof.CollectWalk
import PyProof.FactsAll.set
import PyProof.NeData
import PyProof.P3In
import PyProof.TupleOfSeq
import PyProof.ZipIter
import PyProof.Rows.ZipGen
import PySem.Challenge.RW_strikeweave_k13_whole_and_outright
namespace PySem.W.Fast
def tw8551071715682929199:=0
def tw13859500772575073756:=0
def tw3549938307877647635:=0
def tw1791082847185745084:=0
def tw15011288777217253491:=0
def tw10084679871803041972:=0
def tw16012495611925728179:=0
def tw1835377309202622528:=0
def tw6195944345495460014:=0
def tw1929597265416344529:=0
def tw12890892572453144808:=0
def tw12538568812760087104:=0
def tw6214124092824470442:=0
def tw17279442837075137942:=0
def tw4831971202273333574:=0
def tw7486343195676471142:=0
def tw12986367926978283620:=0
def tw15980252537711852459:=0
def tw15279066263194550594:=0
def tw2261587509398078082:=0
def tw11187755249701074380:=0
def tw6234196306570665873:=0
def tw9337089639043124632:=0
def tw1725701545954151873:=0
def tw2704789391135439728:=0
def tw11794541572656055153:=0
def tw6484698281248989122:=0
def tw4841105931497689762:=0
def tw3990655127351869509:=0
def tw6436797431081772636:=0
def tw8377043700486310742:=0
def tw15644651152477915017:=0
def tw15714538578188335035:=0
def tw1687505679758286406:=0
def tw17545780308375307506:=0
def tw14069369137592861034:=0
def tw3402931523990023433:=0
def tw17118147740656837450:=0
def tw5388934609715346600:=0
def tw16429575328160285368:=0
def tw12439120488633844504:=0
def tw3183001993851420973:=0
def tw14537538982218226119:=0
def tw2165450813541275908:=0
def tw8630979702469934135:=0
def tw4097653776724472843:=0
def tw7304917504056062811:=0
def tw135376813958648658:=0
def tw8666653261603480076:=0
def tw1245068474011239788:=0
def tw15794046796635981715:=0
def tw6678801827895586475:=0
def tw2798604712243076969:=0
def tw7862566432680074524:=0
def tw4133661666673260963:=0
def tw9658236123314954460:=0
def tw6685775732474692139:=0
def tw7165393384773538487:=0
def tw10342889359852571467:=0
def tw12616357967834087279:=0
def tw12555696018279741587:=0
def tw5143918788101014672:=0
def tw3408390323354809234:=0
def tw6360050577090259153:=0
def tw1193960136953878821:=0
def tw5398765455935081402:=0
def tw8826913861960319993:=0
def tw16212321208522514559:=0
def tw4327223197876813364:=0
def tw3866096999638543018:=0
def tw4187889376739156121:=0
def tw666804306712800053:=0
def tw9979154231220558874:=0
def tw9794974491267645185:=0
def tw17836973693988622172:=0
def tw11620319396457526896:=0
def tw8089247606387263922:=0
def tw2387780535032547472:=0
def tw18302967379278698944:=0
def tw7985740292112499050:=0
def tw6683979322345889494:=0
def tw9455835908483971339:=0
def tw13440394944418267203:=0
def tw8688087122999903831:=0
def tw18212908403882506910:=0
def tw4904688569490711902:=0
def tw15200944418560445535:=0
def tw3753856397806044000:=0
def tw14627431379392735760:=0
def tw7453080438926670173:=0
def tw8606093009558724666:=0
def tw15106382964455274496:=0
def tw11650768146963568275:=0
def tw2065483433744299107:=0
def tw2016351042436348328:=0
def tw1119826288495676128:=0
def tw10803901497699327856:=0
def tw15900229335582633273:=0
def tw1828881505453504843:=0
def tw7063207215368038416:=0
def tw1735102019624436995:=0
def tw3111014169238080282:=0
def tw15320033061185525570:=0
def tw12819861388263934278:=0
def tw4810792127403920322:=0
def tw16246748089401328487:=0
def tw10295984711463491953:=0
def tw16466510331989180542:=0
def tw1989411385939818555:=0
def tw10090185695662123256:=0
def tw14285613076828940958:=0
def tw7644769277097901991:=0
def tw18153913250504034141:=0
def tw14143046507996656525:=0
def tw11690281999194757319:=0
def tw15646888858157339305:=0
def tw13051890204136225206:=0
def tw9445686771994915605:=0
def tw5826104908654605453:=0
def tw6043099035427263826:=0
def tw12492232350423678091:=0
def tw2203240563081323879:=0
def tw6060902845874695837:=0
def tw11020265620643828059:=0
def tw1428682594939335407:=0
def tw782981896386508135:=0
def tw2435583148373419246:=0
def tw4478644331149014754:=0
def tw5829030363811558309:=0
def tw3388122232811917985:=0
def tw16183396763088048342:=0
def tw9689078870958489704:=0
def tw2643888947739953012:=0
def tw17985353912440393550:=0
def tw17798887859436431392:=0
def tw10219072832401244897:=0
def tw14073271839397873813:=0
def tw14038020423962129437:=0
def tw475232888890113575:=0
def tw4576022980860978319:=0
def tw180663397257732508:=0
def tw1791789991735022136:=0
def tw4511541495653560176:=0
def tw598914559790338042:=0
def tw860095868885826331:=0
def tw5569731178181371629:=0
def tw3286495164720310363:=0
def tw17690537152611578971:=0
def tw14034825396475952726:=0
def tw2695447255922452043:=0
def tw13218001685728902612:=0
def tw3680211652824743037:=0
def tw5576169016517907740:=0
def tw9270426350632555563:=0
def tw11334018188580078461:=0
def tw14154360771647632116:=0
def tw11889430866916569319:=0
def tw1862129023874836362:=0
def tw18060399512785289770:=0
def tw1188741137677006189:=0
def tw7091606837496433729:=0
def tw11212690464660852138:=0
def tw11001761109727467595:=0
def tw16711374933999821363:=0
def tw12381279952417663335:=0
def tw14272762847572495857:=0
def tw16804840245777304227:=0
def tw15471257103017375507:=0
def tw15942505998592442294:=0
def tw9862489487869280573:=0
def tw1460152646489471819:=0
def tw5791811441484214927:=0
def tw9495442858130944971:=0
def tw14243045257670412275:=0
def tw14002429151603521996:=0
def tw1299940846321191831:=0
def tw13932758143933476332:=0
def tw194526842115315092:=0
def tw18420678819554120672:=0
def tw4783586231795237118:=0
def tw10203019122510560271:=0
def tw15972849560029429103:=0
def tw4156723382142777772:=0
def tw16044374489043367614:=0
def tw7113828474726288641:=0
def tw8909015025643844027:=0
def tw12894224297502999048:=0
def tw14323072048199428677:=0
def tw17571481415670158875:=0
def tw8053312904613541727:=0
def tw15918899144487665474:=0
def tw2376370733101505942:=0
def tw479312129446315123:=0
def tw2609714548414162790:=0
def tw12359889741574082975:=0
def tw5608360257857451810:=0
def tw8306492132575981721:=0
def tw479541951535979389:=0
def tw5410912865341335765:=0
def tw13510220868361009308:=0
def tw6530768449717446555:=0
def tw2826282840814131892:=0
def tw5582724068492346759:=0
def tw17443319567461222607:=0
def tw14697625401401090827:=0
def tw9709173322111017570:=0
def tw16862385430950974644:=0
def tw17336492977336512154:=0
def tw8981727429740745665:=0
def tw16743274307674556036:=0
def tw3092565554787693089:=0
def tw15755451122659177044:=0
def tw3771523287327329493:=0
def tw14275951338861717474:=0
def tw6183949701129096722:=0
def tw13411605472052322647:=0
def tw11873338523493461267:=0
def tw2664812527217557269:=0
def tw4811836917573224674:=0
def tw4985401357706810979:=0
def tw7238233138127162718:=0
def tw749368203207935614:=0
def tw2389283984422486057:=0
def tw7813241530958441560:=0
def tw17603075143904554722:=0
def tw7821740736916212409:=0
def tw1764493968764795395:=0
def tw4097675146925332439:=0
def tw8146702116271109347:=0
def tw10570141579784792412:=0
def tw9901822583576752089:=0
def tw2749417636550014755:=0
def tw9132890239201599324:=0
def tw13753680102256954839:=0
def tw1105806461099013651:=0
def tw17901075158077376353:=0
def tw13744827809810351522:=0
def tw12256984280616551985:=0
def tw4303166450499569850:=0
def tw7786708458940964508:=0
def tw14888633114179412001:=0
def tw769091225030444992:=0
def tw480668015964472896:=0
def tw13189753517075489866:=0
def tw6649390992929810263:=0
def tw8820824098010555116:=0
def tw11998678813754699455:=0
def tw17076682050896490742:=0
def tw18275131512614002652:=0
def tw14404989852434999123:=0
def tw16613917109047236570:=0
def tw5918597105509026486:=0
def tw6287979283824223232:=0
def tw14475757891916587252:=0
def tw3380138069202457709:=0
def tw737915051929945946:=0
def tw13166485388735870156:=0
def tw7415299390583024665:=0
def tw15845684315387365823:=0
def tw3110948689626993748:=0
def tw15333179122081461620:=0
def tw13287820606796183792:=0
def tw11549993553871919433:=0
def tw13150947693024660291:=0
def tw1428054554482002080:=0
def tw13354616365859021538:=0
def tw3154043824815247116:=0
def tw5646642712926962568:=0
def tw16427286469899451488:=0
def tw14078271694557113631:=0
def tw4954920697744471760:=0
def tw1128846344513749439:=0
def tw4288156978848520178:=0
def tw17037865811552984456:=0
def tw8205534016699746789:=0
def tw4753745694504124093:=0
def tw12256208047606628006:=0
def tw15368781817211315772:=0
def tw15898787243293081433:=0
def tw14721344329886550098:=0
def tw5716264307127043516:=0
def tw2510699496967166948:=0
def tw13598567988437182427:=0
def tw1253124318935677730:=0
def tw9040792468902537223:=0
def tw3835319490451078407:=0
def tw4279084112597194778:=0
def tw10530479777244839608:=0
def tw6096557247257989101:=0
def tw17736459737589247174:=0
def tw10067563997659658012:=0
def tw13036778277825883734:=0
def tw12467466918967413313:=0
def tw1000727271650465626:=0
def tw16749063721484849939:=0
def tw11524132490619605197:=0
def tw4062612385772220754:=0
def tw10946295610184882054:=0
def tw3306812007820100808:=0
def tw17802602961908633917:=0
def tw2644305426371769035:=0
def tw16286306878294905761:=0
def tw1835228450988836548:=0
def tw4548855606785971514:=0
def tw1849653473406087803:=0
def tw15549253502933000095:=0
def tw15504652842583179470:=0
def tw16976136339399782466:=0
def tw14739920881308067090:=0
def tw5245725504818856627:=0
def tw10094745225595033515:=0
def tw10247181997030572417:=0
def tw2964879374889380151:=0
def tw4021162041872059329:=0
def tw7125632187077302300:=0
def tw314047129454887413:=0
def tw8956411092405294945:=0
def tw16559320387074643076:=0
def tw2125162287414900740:=0
def tw2940136118542706563:=0
def tw13586447563337203788:=0
end PySem.W.Fast
theorem o0_2  {p0 p1:Prop} {c:Prop} (h:p0/\p1) (k:p0->p1->c):c:=k  h.1 h.2
theorem o0_3  {p0 p1 p2:Prop} {c:Prop} (h:p0/\p1/\p2) (k:p0->p1->p2->c):c:=k  h.1 h.2.1 h.2.2
theorem o0_4  {p0 p1 p2 p3:Prop} {c:Prop} (h:p0/\p1/\p2/\p3) (k:p0->p1->p2->p3->c):c:=k  h.1 h.2.1 h.2.2.1 h.2.2.2
theorem o0_5  {p0 p1 p2 p3 p4:Prop} {c:Prop} (h:p0/\p1/\p2/\p3/\p4) (k:p0->p1->p2->p3->p4->c):c:=k  h.1 h.2.1 h.2.2.1 h.2.2.2.1 h.2.2.2.2
theorem o0_6  {p0 p1 p2 p3 p4 p5:Prop} {c:Prop} (h:p0/\p1/\p2/\p3/\p4/\p5) (k:p0->p1->p2->p3->p4->p5->c):c:=k  h.1 h.2.1 h.2.2.1 h.2.2.2.1 h.2.2.2.2.1 h.2.2.2.2.2
theorem o1_1 {α0:Type} {p0:α0->Prop} {c:Prop} (h:∃ a0,p0 a0) (k:∀ a0,p0 a0->c):c:=h.elim fun a0 h=>k a0 h
theorem o1_2 {α0:Type} {p0 p1:α0->Prop} {c:Prop} (h:∃ a0,p0 a0/\p1 a0) (k:∀ a0,p0 a0->p1 a0->c):c:=h.elim fun a0 h=>k a0 h.1 h.2
theorem o1_3 {α0:Type} {p0 p1 p2:α0->Prop} {c:Prop} (h:∃ a0,p0 a0/\p1 a0/\p2 a0) (k:∀ a0,p0 a0->p1 a0->p2 a0->c):c:=h.elim fun a0 h=>k a0 h.1 h.2.1 h.2.2
theorem o1_4 {α0:Type} {p0 p1 p2 p3:α0->Prop} {c:Prop} (h:∃ a0,p0 a0/\p1 a0/\p2 a0/\p3 a0) (k:∀ a0,p0 a0->p1 a0->p2 a0->p3 a0->c):c:=h.elim fun a0 h=>k a0 h.1 h.2.1 h.2.2.1 h.2.2.2
theorem o1_5 {α0:Type} {p0 p1 p2 p3 p4:α0->Prop} {c:Prop} (h:∃ a0,p0 a0/\p1 a0/\p2 a0/\p3 a0/\p4 a0) (k:∀ a0,p0 a0->p1 a0->p2 a0->p3 a0->p4 a0->c):c:=h.elim fun a0 h=>k a0 h.1 h.2.1 h.2.2.1 h.2.2.2.1 h.2.2.2.2
theorem o1_6 {α0:Type} {p0 p1 p2 p3 p4 p5:α0->Prop} {c:Prop} (h:∃ a0,p0 a0/\p1 a0/\p2 a0/\p3 a0/\p4 a0/\p5 a0) (k:∀ a0,p0 a0->p1 a0->p2 a0->p3 a0->p4 a0->p5 a0->c):c:=h.elim fun a0 h=>k a0 h.1 h.2.1 h.2.2.1 h.2.2.2.1 h.2.2.2.2.1 h.2.2.2.2.2
theorem o2_1 {α0:Type} {α1:Type} {p0:α0->α1->Prop} {c:Prop} (h:∃ a0 a1,p0 a0 a1) (k:∀ a0 a1,p0 a0 a1->c):c:=h.elim fun a0 h=>h.elim fun a1 h=>k a0 a1 h
theorem o2_2 {α0:Type} {α1:Type} {p0 p1:α0->α1->Prop} {c:Prop} (h:∃ a0 a1,p0 a0 a1/\p1 a0 a1) (k:∀ a0 a1,p0 a0 a1->p1 a0 a1->c):c:=h.elim fun a0 h=>h.elim fun a1 h=>k a0 a1 h.1 h.2
theorem o2_3 {α0:Type} {α1:Type} {p0 p1 p2:α0->α1->Prop} {c:Prop} (h:∃ a0 a1,p0 a0 a1/\p1 a0 a1/\p2 a0 a1) (k:∀ a0 a1,p0 a0 a1->p1 a0 a1->p2 a0 a1->c):c:=h.elim fun a0 h=>h.elim fun a1 h=>k a0 a1 h.1 h.2.1 h.2.2
theorem o2_4 {α0:Type} {α1:Type} {p0 p1 p2 p3:α0->α1->Prop} {c:Prop} (h:∃ a0 a1,p0 a0 a1/\p1 a0 a1/\p2 a0 a1/\p3 a0 a1) (k:∀ a0 a1,p0 a0 a1->p1 a0 a1->p2 a0 a1->p3 a0 a1->c):c:=h.elim fun a0 h=>h.elim fun a1 h=>k a0 a1 h.1 h.2.1 h.2.2.1 h.2.2.2
theorem o2_5 {α0:Type} {α1:Type} {p0 p1 p2 p3 p4:α0->α1->Prop} {c:Prop} (h:∃ a0 a1,p0 a0 a1/\p1 a0 a1/\p2 a0 a1/\p3 a0 a1/\p4 a0 a1) (k:∀ a0 a1,p0 a0 a1->p1 a0 a1->p2 a0 a1->p3 a0 a1->p4 a0 a1->c):c:=h.elim fun a0 h=>h.elim fun a1 h=>k a0 a1 h.1 h.2.1 h.2.2.1 h.2.2.2.1 h.2.2.2.2
theorem o2_6 {α0:Type} {α1:Type} {p0 p1 p2 p3 p4 p5:α0->α1->Prop} {c:Prop} (h:∃ a0 a1,p0 a0 a1/\p1 a0 a1/\p2 a0 a1/\p3 a0 a1/\p4 a0 a1/\p5 a0 a1) (k:∀ a0 a1,p0 a0 a1->p1 a0 a1->p2 a0 a1->p3 a0 a1->p4 a0 a1->p5 a0 a1->c):c:=h.elim fun a0 h=>h.elim fun a1 h=>k a0 a1 h.1 h.2.1 h.2.2.1 h.2.2.2.1 h.2.2.2.2.1 h.2.2.2.2.2
theorem o3_1 {α0:Type} {α1:Type} {α2:Type} {p0:α0->α1->α2->Prop} {c:Prop} (h:∃ a0 a1 a2,p0 a0 a1 a2) (k:∀ a0 a1 a2,p0 a0 a1 a2->c):c:=h.elim fun a0 h=>h.elim fun a1 h=>h.elim fun a2 h=>k a0 a1 a2 h
theorem o3_2 {α0:Type} {α1:Type} {α2:Type} {p0 p1:α0->α1->α2->Prop} {c:Prop} (h:∃ a0 a1 a2,p0 a0 a1 a2/\p1 a0 a1 a2) (k:∀ a0 a1 a2,p0 a0 a1 a2->p1 a0 a1 a2->c):c:=h.elim fun a0 h=>h.elim fun a1 h=>h.elim fun a2 h=>k a0 a1 a2 h.1 h.2
theorem o3_3 {α0:Type} {α1:Type} {α2:Type} {p0 p1 p2:α0->α1->α2->Prop} {c:Prop} (h:∃ a0 a1 a2,p0 a0 a1 a2/\p1 a0 a1 a2/\p2 a0 a1 a2) (k:∀ a0 a1 a2,p0 a0 a1 a2->p1 a0 a1 a2->p2 a0 a1 a2->c):c:=h.elim fun a0 h=>h.elim fun a1 h=>h.elim fun a2 h=>k a0 a1 a2 h.1 h.2.1 h.2.2
theorem o3_4 {α0:Type} {α1:Type} {α2:Type} {p0 p1 p2 p3:α0->α1->α2->Prop} {c:Prop} (h:∃ a0 a1 a2,p0 a0 a1 a2/\p1 a0 a1 a2/\p2 a0 a1 a2/\p3 a0 a1 a2) (k:∀ a0 a1 a2,p0 a0 a1 a2->p1 a0 a1 a2->p2 a0 a1 a2->p3 a0 a1 a2->c):c:=h.elim fun a0 h=>h.elim fun a1 h=>h.elim fun a2 h=>k a0 a1 a2 h.1 h.2.1 h.2.2.1 h.2.2.2
theorem o3_5 {α0:Type} {α1:Type} {α2:Type} {p0 p1 p2 p3 p4:α0->α1->α2->Prop} {c:Prop} (h:∃ a0 a1 a2,p0 a0 a1 a2/\p1 a0 a1 a2/\p2 a0 a1 a2/\p3 a0 a1 a2/\p4 a0 a1 a2) (k:∀ a0 a1 a2,p0 a0 a1 a2->p1 a0 a1 a2->p2 a0 a1 a2->p3 a0 a1 a2->p4 a0 a1 a2->c):c:=h.elim fun a0 h=>h.elim fun a1 h=>h.elim fun a2 h=>k a0 a1 a2 h.1 h.2.1 h.2.2.1 h.2.2.2.1 h.2.2.2.2
theorem o3_6 {α0:Type} {α1:Type} {α2:Type} {p0 p1 p2 p3 p4 p5:α0->α1->α2->Prop} {c:Prop} (h:∃ a0 a1 a2,p0 a0 a1 a2/\p1 a0 a1 a2/\p2 a0 a1 a2/\p3 a0 a1 a2/\p4 a0 a1 a2/\p5 a0 a1 a2) (k:∀ a0 a1 a2,p0 a0 a1 a2->p1 a0 a1 a2->p2 a0 a1 a2->p3 a0 a1 a2->p4 a0 a1 a2->p5 a0 a1 a2->c):c:=h.elim fun a0 h=>h.elim fun a1 h=>h.elim fun a2 h=>k a0 a1 a2 h.1 h.2.1 h.2.2.1 h.2.2.2.1 h.2.2.2.2.1 h.2.2.2.2.2
theorem o3_7 {α0:Type} {α1:Type} {α2:Type} {p0 p1 p2 p3 p4 p5 p6:α0->α1->α2->Prop} {c:Prop} (h:∃ a0 a1 a2,p0 a0 a1 a2/\p1 a0 a1 a2/\p2 a0 a1 a2/\p3 a0 a1 a2/\p4 a0 a1 a2/\p5 a0 a1 a2/\p6 a0 a1 a2) (k:∀ a0 a1 a2,p0 a0 a1 a2->p1 a0 a1 a2->p2 a0 a1 a2->p3 a0 a1 a2->p4 a0 a1 a2->p5 a0 a1 a2->p6 a0 a1 a2->c):c:=h.elim fun a0 h=>h.elim fun a1 h=>h.elim fun a2 h=>k a0 a1 a2 h.1 h.2.1 h.2.2.1 h.2.2.2.1 h.2.2.2.2.1 h.2.2.2.2.2.1 h.2.2.2.2.2.2
theorem o3_8 {α0:Type} {α1:Type} {α2:Type} {p0 p1 p2 p3 p4 p5 p6 p7:α0->α1->α2->Prop} {c:Prop} (h:∃ a0 a1 a2,p0 a0 a1 a2/\p1 a0 a1 a2/\p2 a0 a1 a2/\p3 a0 a1 a2/\p4 a0 a1 a2/\p5 a0 a1 a2/\p6 a0 a1 a2/\p7 a0 a1 a2) (k:∀ a0 a1 a2,p0 a0 a1 a2->p1 a0 a1 a2->p2 a0 a1 a2->p3 a0 a1 a2->p4 a0 a1 a2->p5 a0 a1 a2->p6 a0 a1 a2->p7 a0 a1 a2->c):c:=h.elim fun a0 h=>h.elim fun a1 h=>h.elim fun a2 h=>k a0 a1 a2 h.1 h.2.1 h.2.2.1 h.2.2.2.1 h.2.2.2.2.1 h.2.2.2.2.2.1 h.2.2.2.2.2.2.1 h.2.2.2.2.2.2.2
theorem o3_9 {α0:Type} {α1:Type} {α2:Type} {p0 p1 p2 p3 p4 p5 p6 p7 p8:α0->α1->α2->Prop} {c:Prop} (h:∃ a0 a1 a2,p0 a0 a1 a2/\p1 a0 a1 a2/\p2 a0 a1 a2/\p3 a0 a1 a2/\p4 a0 a1 a2/\p5 a0 a1 a2/\p6 a0 a1 a2/\p7 a0 a1 a2/\p8 a0 a1 a2) (k:∀ a0 a1 a2,p0 a0 a1 a2->p1 a0 a1 a2->p2 a0 a1 a2->p3 a0 a1 a2->p4 a0 a1 a2->p5 a0 a1 a2->p6 a0 a1 a2->p7 a0 a1 a2->p8 a0 a1 a2->c):c:=h.elim fun a0 h=>h.elim fun a1 h=>h.elim fun a2 h=>k a0 a1 a2 h.1 h.2.1 h.2.2.1 h.2.2.2.1 h.2.2.2.2.1 h.2.2.2.2.2.1 h.2.2.2.2.2.2.1 h.2.2.2.2.2.2.2.1 h.2.2.2.2.2.2.2.2
theorem o4_1 {α0:Type} {α1:Type} {α2:Type} {α3:Type} {p0:α0->α1->α2->α3->Prop} {c:Prop} (h:∃ a0 a1 a2 a3,p0 a0 a1 a2 a3) (k:∀ a0 a1 a2 a3,p0 a0 a1 a2 a3->c):c:=h.elim fun a0 h=>h.elim fun a1 h=>h.elim fun a2 h=>h.elim fun a3 h=>k a0 a1 a2 a3 h
theorem o4_2 {α0:Type} {α1:Type} {α2:Type} {α3:Type} {p0 p1:α0->α1->α2->α3->Prop} {c:Prop} (h:∃ a0 a1 a2 a3,p0 a0 a1 a2 a3/\p1 a0 a1 a2 a3) (k:∀ a0 a1 a2 a3,p0 a0 a1 a2 a3->p1 a0 a1 a2 a3->c):c:=h.elim fun a0 h=>h.elim fun a1 h=>h.elim fun a2 h=>h.elim fun a3 h=>k a0 a1 a2 a3 h.1 h.2
theorem o4_3 {α0:Type} {α1:Type} {α2:Type} {α3:Type} {p0 p1 p2:α0->α1->α2->α3->Prop} {c:Prop} (h:∃ a0 a1 a2 a3,p0 a0 a1 a2 a3/\p1 a0 a1 a2 a3/\p2 a0 a1 a2 a3) (k:∀ a0 a1 a2 a3,p0 a0 a1 a2 a3->p1 a0 a1 a2 a3->p2 a0 a1 a2 a3->c):c:=h.elim fun a0 h=>h.elim fun a1 h=>h.elim fun a2 h=>h.elim fun a3 h=>k a0 a1 a2 a3 h.1 h.2.1 h.2.2
theorem o4_4 {α0:Type} {α1:Type} {α2:Type} {α3:Type} {p0 p1 p2 p3:α0->α1->α2->α3->Prop} {c:Prop} (h:∃ a0 a1 a2 a3,p0 a0 a1 a2 a3/\p1 a0 a1 a2 a3/\p2 a0 a1 a2 a3/\p3 a0 a1 a2 a3) (k:∀ a0 a1 a2 a3,p0 a0 a1 a2 a3->p1 a0 a1 a2 a3->p2 a0 a1 a2 a3->p3 a0 a1 a2 a3->c):c:=h.elim fun a0 h=>h.elim fun a1 h=>h.elim fun a2 h=>h.elim fun a3 h=>k a0 a1 a2 a3 h.1 h.2.1 h.2.2.1 h.2.2.2
theorem o4_5 {α0:Type} {α1:Type} {α2:Type} {α3:Type} {p0 p1 p2 p3 p4:α0->α1->α2->α3->Prop} {c:Prop} (h:∃ a0 a1 a2 a3,p0 a0 a1 a2 a3/\p1 a0 a1 a2 a3/\p2 a0 a1 a2 a3/\p3 a0 a1 a2 a3/\p4 a0 a1 a2 a3) (k:∀ a0 a1 a2 a3,p0 a0 a1 a2 a3->p1 a0 a1 a2 a3->p2 a0 a1 a2 a3->p3 a0 a1 a2 a3->p4 a0 a1 a2 a3->c):c:=h.elim fun a0 h=>h.elim fun a1 h=>h.elim fun a2 h=>h.elim fun a3 h=>k a0 a1 a2 a3 h.1 h.2.1 h.2.2.1 h.2.2.2.1 h.2.2.2.2
theorem o4_6 {α0:Type} {α1:Type} {α2:Type} {α3:Type} {p0 p1 p2 p3 p4 p5:α0->α1->α2->α3->Prop} {c:Prop} (h:∃ a0 a1 a2 a3,p0 a0 a1 a2 a3/\p1 a0 a1 a2 a3/\p2 a0 a1 a2 a3/\p3 a0 a1 a2 a3/\p4 a0 a1 a2 a3/\p5 a0 a1 a2 a3) (k:∀ a0 a1 a2 a3,p0 a0 a1 a2 a3->p1 a0 a1 a2 a3->p2 a0 a1 a2 a3->p3 a0 a1 a2 a3->p4 a0 a1 a2 a3->p5 a0 a1 a2 a3->c):c:=h.elim fun a0 h=>h.elim fun a1 h=>h.elim fun a2 h=>h.elim fun a3 h=>k a0 a1 a2 a3 h.1 h.2.1 h.2.2.1 h.2.2.2.1 h.2.2.2.2.1 h.2.2.2.2.2
theorem o4_7 {α0:Type} {α1:Type} {α2:Type} {α3:Type} {p0 p1 p2 p3 p4 p5 p6:α0->α1->α2->α3->Prop} {c:Prop} (h:∃ a0 a1 a2 a3,p0 a0 a1 a2 a3/\p1 a0 a1 a2 a3/\p2 a0 a1 a2 a3/\p3 a0 a1 a2 a3/\p4 a0 a1 a2 a3/\p5 a0 a1 a2 a3/\p6 a0 a1 a2 a3) (k:∀ a0 a1 a2 a3,p0 a0 a1 a2 a3->p1 a0 a1 a2 a3->p2 a0 a1 a2 a3->p3 a0 a1 a2 a3->p4 a0 a1 a2 a3->p5 a0 a1 a2 a3->p6 a0 a1 a2 a3->c):c:=h.elim fun a0 h=>h.elim fun a1 h=>h.elim fun a2 h=>h.elim fun a3 h=>k a0 a1 a2 a3 h.1 h.2.1 h.2.2.1 h.2.2.2.1 h.2.2.2.2.1 h.2.2.2.2.2.1 h.2.2.2.2.2.2
theorem o4_8 {α0:Type} {α1:Type} {α2:Type} {α3:Type} {p0 p1 p2 p3 p4 p5 p6 p7:α0->α1->α2->α3->Prop} {c:Prop} (h:∃ a0 a1 a2 a3,p0 a0 a1 a2 a3/\p1 a0 a1 a2 a3/\p2 a0 a1 a2 a3/\p3 a0 a1 a2 a3/\p4 a0 a1 a2 a3/\p5 a0 a1 a2 a3/\p6 a0 a1 a2 a3/\p7 a0 a1 a2 a3) (k:∀ a0 a1 a2 a3,p0 a0 a1 a2 a3->p1 a0 a1 a2 a3->p2 a0 a1 a2 a3->p3 a0 a1 a2 a3->p4 a0 a1 a2 a3->p5 a0 a1 a2 a3->p6 a0 a1 a2 a3->p7 a0 a1 a2 a3->c):c:=h.elim fun a0 h=>h.elim fun a1 h=>h.elim fun a2 h=>h.elim fun a3 h=>k a0 a1 a2 a3 h.1 h.2.1 h.2.2.1 h.2.2.2.1 h.2.2.2.2.1 h.2.2.2.2.2.1 h.2.2.2.2.2.2.1 h.2.2.2.2.2.2.2
theorem o5_2 {α0:Type} {α1:Type} {α2:Type} {α3:Type} {α4:Type} {p0 p1:α0->α1->α2->α3->α4->Prop} {c:Prop} (h:∃ a0 a1 a2 a3 a4,p0 a0 a1 a2 a3 a4/\p1 a0 a1 a2 a3 a4) (k:∀ a0 a1 a2 a3 a4,p0 a0 a1 a2 a3 a4->p1 a0 a1 a2 a3 a4->c):c:=h.elim fun a0 h=>h.elim fun a1 h=>h.elim fun a2 h=>h.elim fun a3 h=>h.elim fun a4 h=>k a0 a1 a2 a3 a4 h.1 h.2
theorem o5_4 {α0:Type} {α1:Type} {α2:Type} {α3:Type} {α4:Type} {p0 p1 p2 p3:α0->α1->α2->α3->α4->Prop} {c:Prop} (h:∃ a0 a1 a2 a3 a4,p0 a0 a1 a2 a3 a4/\p1 a0 a1 a2 a3 a4/\p2 a0 a1 a2 a3 a4/\p3 a0 a1 a2 a3 a4) (k:∀ a0 a1 a2 a3 a4,p0 a0 a1 a2 a3 a4->p1 a0 a1 a2 a3 a4->p2 a0 a1 a2 a3 a4->p3 a0 a1 a2 a3 a4->c):c:=h.elim fun a0 h=>h.elim fun a1 h=>h.elim fun a2 h=>h.elim fun a3 h=>h.elim fun a4 h=>k a0 a1 a2 a3 a4 h.1 h.2.1 h.2.2.1 h.2.2.2
theorem o5_5 {α0:Type} {α1:Type} {α2:Type} {α3:Type} {α4:Type} {p0 p1 p2 p3 p4:α0->α1->α2->α3->α4->Prop} {c:Prop} (h:∃ a0 a1 a2 a3 a4,p0 a0 a1 a2 a3 a4/\p1 a0 a1 a2 a3 a4/\p2 a0 a1 a2 a3 a4/\p3 a0 a1 a2 a3 a4/\p4 a0 a1 a2 a3 a4) (k:∀ a0 a1 a2 a3 a4,p0 a0 a1 a2 a3 a4->p1 a0 a1 a2 a3 a4->p2 a0 a1 a2 a3 a4->p3 a0 a1 a2 a3 a4->p4 a0 a1 a2 a3 a4->c):c:=h.elim fun a0 h=>h.elim fun a1 h=>h.elim fun a2 h=>h.elim fun a3 h=>h.elim fun a4 h=>k a0 a1 a2 a3 a4 h.1 h.2.1 h.2.2.1 h.2.2.2.1 h.2.2.2.2
theorem o5_6 {α0:Type} {α1:Type} {α2:Type} {α3:Type} {α4:Type} {p0 p1 p2 p3 p4 p5:α0->α1->α2->α3->α4->Prop} {c:Prop} (h:∃ a0 a1 a2 a3 a4,p0 a0 a1 a2 a3 a4/\p1 a0 a1 a2 a3 a4/\p2 a0 a1 a2 a3 a4/\p3 a0 a1 a2 a3 a4/\p4 a0 a1 a2 a3 a4/\p5 a0 a1 a2 a3 a4) (k:∀ a0 a1 a2 a3 a4,p0 a0 a1 a2 a3 a4->p1 a0 a1 a2 a3 a4->p2 a0 a1 a2 a3 a4->p3 a0 a1 a2 a3 a4->p4 a0 a1 a2 a3 a4->p5 a0 a1 a2 a3 a4->c):c:=h.elim fun a0 h=>h.elim fun a1 h=>h.elim fun a2 h=>h.elim fun a3 h=>h.elim fun a4 h=>k a0 a1 a2 a3 a4 h.1 h.2.1 h.2.2.1 h.2.2.2.1 h.2.2.2.2.1 h.2.2.2.2.2
theorem o5_7 {α0:Type} {α1:Type} {α2:Type} {α3:Type} {α4:Type} {p0 p1 p2 p3 p4 p5 p6:α0->α1->α2->α3->α4->Prop} {c:Prop} (h:∃ a0 a1 a2 a3 a4,p0 a0 a1 a2 a3 a4/\p1 a0 a1 a2 a3 a4/\p2 a0 a1 a2 a3 a4/\p3 a0 a1 a2 a3 a4/\p4 a0 a1 a2 a3 a4/\p5 a0 a1 a2 a3 a4/\p6 a0 a1 a2 a3 a4) (k:∀ a0 a1 a2 a3 a4,p0 a0 a1 a2 a3 a4->p1 a0 a1 a2 a3 a4->p2 a0 a1 a2 a3 a4->p3 a0 a1 a2 a3 a4->p4 a0 a1 a2 a3 a4->p5 a0 a1 a2 a3 a4->p6 a0 a1 a2 a3 a4->c):c:=h.elim fun a0 h=>h.elim fun a1 h=>h.elim fun a2 h=>h.elim fun a3 h=>h.elim fun a4 h=>k a0 a1 a2 a3 a4 h.1 h.2.1 h.2.2.1 h.2.2.2.1 h.2.2.2.2.1 h.2.2.2.2.2.1 h.2.2.2.2.2.2
theorem o5_8 {α0:Type} {α1:Type} {α2:Type} {α3:Type} {α4:Type} {p0 p1 p2 p3 p4 p5 p6 p7:α0->α1->α2->α3->α4->Prop} {c:Prop} (h:∃ a0 a1 a2 a3 a4,p0 a0 a1 a2 a3 a4/\p1 a0 a1 a2 a3 a4/\p2 a0 a1 a2 a3 a4/\p3 a0 a1 a2 a3 a4/\p4 a0 a1 a2 a3 a4/\p5 a0 a1 a2 a3 a4/\p6 a0 a1 a2 a3 a4/\p7 a0 a1 a2 a3 a4) (k:∀ a0 a1 a2 a3 a4,p0 a0 a1 a2 a3 a4->p1 a0 a1 a2 a3 a4->p2 a0 a1 a2 a3 a4->p3 a0 a1 a2 a3 a4->p4 a0 a1 a2 a3 a4->p5 a0 a1 a2 a3 a4->p6 a0 a1 a2 a3 a4->p7 a0 a1 a2 a3 a4->c):c:=h.elim fun a0 h=>h.elim fun a1 h=>h.elim fun a2 h=>h.elim fun a3 h=>h.elim fun a4 h=>k a0 a1 a2 a3 a4 h.1 h.2.1 h.2.2.1 h.2.2.2.1 h.2.2.2.2.1 h.2.2.2.2.2.1 h.2.2.2.2.2.2.1 h.2.2.2.2.2.2.2
theorem o6_1 {α0:Type} {α1:Type} {α2:Type} {α3:Type} {α4:Type} {α5:Type} {p0:α0->α1->α2->α3->α4->α5->Prop} {c:Prop} (h:∃ a0 a1 a2 a3 a4 a5,p0 a0 a1 a2 a3 a4 a5) (k:∀ a0 a1 a2 a3 a4 a5,p0 a0 a1 a2 a3 a4 a5->c):c:=h.elim fun a0 h=>h.elim fun a1 h=>h.elim fun a2 h=>h.elim fun a3 h=>h.elim fun a4 h=>h.elim fun a5 h=>k a0 a1 a2 a3 a4 a5 h
theorem o6_2 {α0:Type} {α1:Type} {α2:Type} {α3:Type} {α4:Type} {α5:Type} {p0 p1:α0->α1->α2->α3->α4->α5->Prop} {c:Prop} (h:∃ a0 a1 a2 a3 a4 a5,p0 a0 a1 a2 a3 a4 a5/\p1 a0 a1 a2 a3 a4 a5) (k:∀ a0 a1 a2 a3 a4 a5,p0 a0 a1 a2 a3 a4 a5->p1 a0 a1 a2 a3 a4 a5->c):c:=h.elim fun a0 h=>h.elim fun a1 h=>h.elim fun a2 h=>h.elim fun a3 h=>h.elim fun a4 h=>h.elim fun a5 h=>k a0 a1 a2 a3 a4 a5 h.1 h.2
theorem o6_8 {α0:Type} {α1:Type} {α2:Type} {α3:Type} {α4:Type} {α5:Type} {p0 p1 p2 p3 p4 p5 p6 p7:α0->α1->α2->α3->α4->α5->Prop} {c:Prop} (h:∃ a0 a1 a2 a3 a4 a5,p0 a0 a1 a2 a3 a4 a5/\p1 a0 a1 a2 a3 a4 a5/\p2 a0 a1 a2 a3 a4 a5/\p3 a0 a1 a2 a3 a4 a5/\p4 a0 a1 a2 a3 a4 a5/\p5 a0 a1 a2 a3 a4 a5/\p6 a0 a1 a2 a3 a4 a5/\p7 a0 a1 a2 a3 a4 a5) (k:∀ a0 a1 a2 a3 a4 a5,p0 a0 a1 a2 a3 a4 a5->p1 a0 a1 a2 a3 a4 a5->p2 a0 a1 a2 a3 a4 a5->p3 a0 a1 a2 a3 a4 a5->p4 a0 a1 a2 a3 a4 a5->p5 a0 a1 a2 a3 a4 a5->p6 a0 a1 a2 a3 a4 a5->p7 a0 a1 a2 a3 a4 a5->c):c:=h.elim fun a0 h=>h.elim fun a1 h=>h.elim fun a2 h=>h.elim fun a3 h=>h.elim fun a4 h=>h.elim fun a5 h=>k a0 a1 a2 a3 a4 a5 h.1 h.2.1 h.2.2.1 h.2.2.2.1 h.2.2.2.2.1 h.2.2.2.2.2.1 h.2.2.2.2.2.2.1 h.2.2.2.2.2.2.2
theorem o6_9 {α0:Type} {α1:Type} {α2:Type} {α3:Type} {α4:Type} {α5:Type} {p0 p1 p2 p3 p4 p5 p6 p7 p8:α0->α1->α2->α3->α4->α5->Prop} {c:Prop} (h:∃ a0 a1 a2 a3 a4 a5,p0 a0 a1 a2 a3 a4 a5/\p1 a0 a1 a2 a3 a4 a5/\p2 a0 a1 a2 a3 a4 a5/\p3 a0 a1 a2 a3 a4 a5/\p4 a0 a1 a2 a3 a4 a5/\p5 a0 a1 a2 a3 a4 a5/\p6 a0 a1 a2 a3 a4 a5/\p7 a0 a1 a2 a3 a4 a5/\p8 a0 a1 a2 a3 a4 a5) (k:∀ a0 a1 a2 a3 a4 a5,p0 a0 a1 a2 a3 a4 a5->p1 a0 a1 a2 a3 a4 a5->p2 a0 a1 a2 a3 a4 a5->p3 a0 a1 a2 a3 a4 a5->p4 a0 a1 a2 a3 a4 a5->p5 a0 a1 a2 a3 a4 a5->p6 a0 a1 a2 a3 a4 a5->p7 a0 a1 a2 a3 a4 a5->p8 a0 a1 a2 a3 a4 a5->c):c:=h.elim fun a0 h=>h.elim fun a1 h=>h.elim fun a2 h=>h.elim fun a3 h=>h.elim fun a4 h=>h.elim fun a5 h=>k a0 a1 a2 a3 a4 a5 h.1 h.2.1 h.2.2.1 h.2.2.2.1 h.2.2.2.2.1 h.2.2.2.2.2.1 h.2.2.2.2.2.2.1 h.2.2.2.2.2.2.2.1 h.2.2.2.2.2.2.2.2
theorem o7_2 {α0:Type} {α1:Type} {α2:Type} {α3:Type} {α4:Type} {α5:Type} {α6:Type} {p0 p1:α0->α1->α2->α3->α4->α5->α6->Prop} {c:Prop} (h:∃ a0 a1 a2 a3 a4 a5 a6,p0 a0 a1 a2 a3 a4 a5 a6/\p1 a0 a1 a2 a3 a4 a5 a6) (k:∀ a0 a1 a2 a3 a4 a5 a6,p0 a0 a1 a2 a3 a4 a5 a6->p1 a0 a1 a2 a3 a4 a5 a6->c):c:=h.elim fun a0 h=>h.elim fun a1 h=>h.elim fun a2 h=>h.elim fun a3 h=>h.elim fun a4 h=>h.elim fun a5 h=>h.elim fun a6 h=>k a0 a1 a2 a3 a4 a5 a6 h.1 h.2
theorem o7_4 {α0:Type} {α1:Type} {α2:Type} {α3:Type} {α4:Type} {α5:Type} {α6:Type} {p0 p1 p2 p3:α0->α1->α2->α3->α4->α5->α6->Prop} {c:Prop} (h:∃ a0 a1 a2 a3 a4 a5 a6,p0 a0 a1 a2 a3 a4 a5 a6/\p1 a0 a1 a2 a3 a4 a5 a6/\p2 a0 a1 a2 a3 a4 a5 a6/\p3 a0 a1 a2 a3 a4 a5 a6) (k:∀ a0 a1 a2 a3 a4 a5 a6,p0 a0 a1 a2 a3 a4 a5 a6->p1 a0 a1 a2 a3 a4 a5 a6->p2 a0 a1 a2 a3 a4 a5 a6->p3 a0 a1 a2 a3 a4 a5 a6->c):c:=h.elim fun a0 h=>h.elim fun a1 h=>h.elim fun a2 h=>h.elim fun a3 h=>h.elim fun a4 h=>h.elim fun a5 h=>h.elim fun a6 h=>k a0 a1 a2 a3 a4 a5 a6 h.1 h.2.1 h.2.2.1 h.2.2.2
theorem o7_6 {α0:Type} {α1:Type} {α2:Type} {α3:Type} {α4:Type} {α5:Type} {α6:Type} {p0 p1 p2 p3 p4 p5:α0->α1->α2->α3->α4->α5->α6->Prop} {c:Prop} (h:∃ a0 a1 a2 a3 a4 a5 a6,p0 a0 a1 a2 a3 a4 a5 a6/\p1 a0 a1 a2 a3 a4 a5 a6/\p2 a0 a1 a2 a3 a4 a5 a6/\p3 a0 a1 a2 a3 a4 a5 a6/\p4 a0 a1 a2 a3 a4 a5 a6/\p5 a0 a1 a2 a3 a4 a5 a6) (k:∀ a0 a1 a2 a3 a4 a5 a6,p0 a0 a1 a2 a3 a4 a5 a6->p1 a0 a1 a2 a3 a4 a5 a6->p2 a0 a1 a2 a3 a4 a5 a6->p3 a0 a1 a2 a3 a4 a5 a6->p4 a0 a1 a2 a3 a4 a5 a6->p5 a0 a1 a2 a3 a4 a5 a6->c):c:=h.elim fun a0 h=>h.elim fun a1 h=>h.elim fun a2 h=>h.elim fun a3 h=>h.elim fun a4 h=>h.elim fun a5 h=>h.elim fun a6 h=>k a0 a1 a2 a3 a4 a5 a6 h.1 h.2.1 h.2.2.1 h.2.2.2.1 h.2.2.2.2.1 h.2.2.2.2.2
theorem o8_2 {α0:Type} {α1:Type} {α2:Type} {α3:Type} {α4:Type} {α5:Type} {α6:Type} {α7:Type} {p0 p1:α0->α1->α2->α3->α4->α5->α6->α7->Prop} {c:Prop} (h:∃ a0 a1 a2 a3 a4 a5 a6 a7,p0 a0 a1 a2 a3 a4 a5 a6 a7/\p1 a0 a1 a2 a3 a4 a5 a6 a7) (k:∀ a0 a1 a2 a3 a4 a5 a6 a7,p0 a0 a1 a2 a3 a4 a5 a6 a7->p1 a0 a1 a2 a3 a4 a5 a6 a7->c):c:=h.elim fun a0 h=>h.elim fun a1 h=>h.elim fun a2 h=>h.elim fun a3 h=>h.elim fun a4 h=>h.elim fun a5 h=>h.elim fun a6 h=>h.elim fun a7 h=>k a0 a1 a2 a3 a4 a5 a6 a7 h.1 h.2
theorem o9_3 {α0:Type} {α1:Type} {α2:Type} {α3:Type} {α4:Type} {α5:Type} {α6:Type} {α7:Type} {α8:Type} {p0 p1 p2:α0->α1->α2->α3->α4->α5->α6->α7->α8->Prop} {c:Prop} (h:∃ a0 a1 a2 a3 a4 a5 a6 a7 a8,p0 a0 a1 a2 a3 a4 a5 a6 a7 a8/\p1 a0 a1 a2 a3 a4 a5 a6 a7 a8/\p2 a0 a1 a2 a3 a4 a5 a6 a7 a8) (k:∀ a0 a1 a2 a3 a4 a5 a6 a7 a8,p0 a0 a1 a2 a3 a4 a5 a6 a7 a8->p1 a0 a1 a2 a3 a4 a5 a6 a7 a8->p2 a0 a1 a2 a3 a4 a5 a6 a7 a8->c):c:=h.elim fun a0 h=>h.elim fun a1 h=>h.elim fun a2 h=>h.elim fun a3 h=>h.elim fun a4 h=>h.elim fun a5 h=>h.elim fun a6 h=>h.elim fun a7 h=>h.elim fun a8 h=>k a0 a1 a2 a3 a4 a5 a6 a7 a8 h.1 h.2.1 h.2.2
set_option autoImplicit false
set_option genSizeOf false
set_option genSizeOfSpec false
set_option bootstrap.genMatcherCode false
set_option compiler.extract_closed false
set_option linter.all false
set_option maxRecDepth 100000
namespace TS
open PySem PyProof.Rows
noncomputable def kk (κ:KeyKind) (p:Keyed):κ.α:=(κ.keyOf p.1).getD κ.dflt
noncomputable def Has (κ:KeyKind) (p:Keyed):Prop:=∃ a,κ.keyOf p.1 = some a
noncomputable def le (κ:KeyKind) (p q:Keyed):Prop:=κ.kle (kk κ p) (kk κ q)
noncomputable def Sor (κ:KeyKind) (l:List Keyed):Prop:=l.Pairwise (le κ)
structure Cmp (prog:Program) (w:World) (A:Around) (s:Shared) (κ:KeyKind) (kd:SortKind):Prop where
 lt:∀ (x y:Value) (a b:κ.α) (Q:Bool->Shared->Prop) (E:Value->Shared->Prop),κ.keyOf x = some a->κ.keyOf y = some b->Q (κ.blt a b) s->wpAny (model prog w) A (keyLt' kd x y) Q E s
section
variable {prog:Program} {w:World} {A:Around} {E:Value->Shared->Prop} {s:Shared} {κ:KeyKind} {kd:SortKind}
theorem wpS_lt (C:Cmp prog w A s κ kd) {st:SortSt} {x y:Keyed} {Q:Option Bool->SortSt->Prop} (hk:kindOf st = kd) (hx:Has κ x) (hy:Has κ y)
  (h:Q (some (κ.blt (kk κ x) (kk κ y))) st):wpS (model prog w) A E s (lt' x y) Q st:=by
 refine o1_1 hx fun a ha=>?_
 try clear hx
 refine o1_1 hy fun b hb=>?_
 try clear hy
 have e1:kk κ x = a:=by unfold kk; rw [ha]; rfl
 have e2:kk κ y = b:=by unfold kk; rw [hb]; rfl
 rw [e1,e2] at h
 rw [lt'_eq]
 refine wpS_bind (wpS_get ?_)
 rw [hk]
 refine wpS_bind (wpS_lift (wpAny_attempt (C.lt x.1 y.1 a b _ _ ha hb ⟨rfl,?_⟩)))
 exact wpS_pure h
theorem wpS_elem {st:SortSt} {arr:Array Keyed} {i:Nat} {p:Keyed} {Q:Keyed->SortSt->Prop} (hi:arr[i]? = some p) (h:Q p st):wpS (model prog w) A E s (elem' arr i) Q st:=by
 rw [elem'_eq,hi]; exact wpS_pure h
section
variable {α:Type} {Q:α->SortSt->Prop} {st:SortSt}
theorem wpS_if {c:Prop} {_:Decidable c} {t e:StateT SortSt Sem α} (h1:c->wpS (model prog w) A E s t Q st) (h2:¬ c->wpS (model prog w) A E s e Q st):wpS (model prog w) A E s (if c then t else e) Q st:=by
 split
 ·rename_i h; exact h1 h
 ·rename_i h; exact h2 h
theorem wpS_ifN {x y:Nat} {t e:StateT SortSt Sem α} (h1:x = y->wpS (model prog w) A E s t Q st) (h2:x ≠ y->wpS (model prog w) A E s e Q st):wpS (model prog w) A E s (if (x == y) = true then t else e) Q st :=
 wpS_if (fun h=>h1 (eq_of_beq h)) fun h=>h2 fun z=>h (beq_iff_eq.mpr z)
end
noncomputable def gallop':Bool->Keyed->Array Keyed->Nat->Nat->Nat->StateT SortSt Sem (Option Nat):=sortPriv% PySem.Builtin.gallop
noncomputable def bey (left:Bool) (ky:Keyed) (ar:Array Keyed) (bs:Nat) (i:Nat):StateT SortSt Sem (Option Bool):=do
 let x <-elem' ar (bs + i)
 if left then lt' x ky else return (<-lt' ky x).map (!·)
theorem gallop'_eq (left:Bool) (ky:Keyed) (ar:Array Keyed) (bs n ht:Nat):gallop' left ky ar bs n ht = (do
  let mut la:=0
  let mut of:=1
  let mut lo:=0
  let mut hi:=0
  let some ri <-bey left ky ar bs ht | return none
  if ri then
   let mx:=n - ht
   for _ in [0:n] do
    if of ≥ mx then break
    let some mo <-bey left ky ar bs (ht + of) | return none
    if !mo then break
    la:=of
    of:=2 * of + 1
   lo:=ht + la + 1
   hi:=ht + min of mx
  else
   let mx:=ht + 1
   for _ in [0:n] do
    if of ≥ mx then break
    let some fo <-bey left ky ar bs (ht - of) | return none
    if fo then break
    la:=of
    of:=2 * of + 1
   lo:=ht + 1 - min of mx
   hi:=ht - la
  for _ in [0:n] do
   if lo ≥ hi then break
   let m:=lo + (hi - lo) / 2
   let some mo <-bey left ky ar bs m | return none
   if mo then lo:=m + 1 else hi:=m
  return some hi):=rfl
noncomputable def PB (κ:KeyKind) (left:Bool) (ky:Keyed) (p:Keyed):Bool:=if left then κ.blt (kk κ p) (kk κ ky) else !κ.blt (kk κ ky) (kk κ p)
theorem wpS_bey (C:Cmp prog w A s κ kd) {st:SortSt} {left:Bool} {ky p:Keyed} {ar:Array Keyed} {bs i:Nat} {Q:Option Bool->SortSt->Prop} (hk:kindOf st = kd) (hky:Has κ ky) (hp:Has κ p) (hi:ar[bs + i]? = some p)
  (h:Q (some (PB κ left ky p)) st):wpS (model prog w) A E s (bey left ky ar bs i) Q st:=by
 unfold bey
 refine wpS_bind (wpS_elem hi ?_)
 cases left with
 | true=>exact wpS_lt C hk hp hky h
 | false =>
  simp only [Bool.false_eq_true,if_false]
  refine wpS_bind (wpS_lt C hk hky hp ?_)
  exact wpS_pure h
theorem wpS_gallop (C:Cmp prog w A s κ kd) {st:SortSt} {left:Bool} {ky:Keyed} {ar:Array Keyed} {bs n ht:Nat} {Q:Option Nat->SortSt->Prop} (hk:kindOf st = kd) (hky:Has κ ky)
  (P:Nat->Bool) (hP:∀ i,i < n->∃ p,ar[bs + i]? = some p/\Has κ p/\PB κ left ky p = P i) (mono:∀ i j,i<=j->j < n->P j = true->P i = true) (hht:ht < n)
  (h:∀ k,k<=n->(∀ i,i < k->P i = true)->(∀ i,k<=i->i < n->P i = false)->Q (some k) st):wpS (model prog w) A E s (gallop' left ky ar bs n ht) Q st:=by
 have B:∀ {st':SortSt} {i:Nat} {Q:Option Bool->SortSt->Prop},st' = st->i < n->Q (some (P i)) st'->wpS (model prog w) A E s (bey left ky ar bs i) Q st':=by
  intro st' i Q e hi q
  subst e
  refine o1_3 (hP i hi) fun p h1 h2 h3=>?_
  exact wpS_bey C hk hky h2 h1 (by rw [h3]; exact q)
 have nmono:∀ i j,i<=j->j < n->P i = false->P j = false:=by
  intro i j hij hj hi
  cases e:P j with
  | false=>rfl
  | true=>rw [mono i j hij hj e] at hi; cases hi
 rw [gallop'_eq]
 dsimp only
 refine wpS_bind (B rfl hht ?_)
 dsimp only
 have S:∀ {lo hi:Nat} {f:Nat->(Option (Option Nat) × Nat × Nat)->StateT SortSt Sem (ForInStep (Option (Option Nat) × Nat × Nat))},
   (∀ x l h,wpS (model prog w) A E s (f x (none,l,h)) (fun r st'=>st' = st/\(if h<=l then r = .done (none,l,h) else if P (l + (h - l) / 2) = true then r = .yield (none,l + (h - l) / 2 + 1,h) else r = .yield (none,l,l + (h - l) / 2))) st\/¬ (h<=l\/l + (h - l) / 2 < n)) ->
   lo<=hi->hi<=n->(∀ i,i < lo->P i = true)->(∀ i,hi<=i->i < n->P i = false) ->
   wpS (model prog w) A E s (forIn [0:n] (none,lo,hi) f) (fun c st'=>st' = st/\∃ k,c = (none,k,k)/\k<=n/\(∀ i,i < k->P i = true)/\(∀ i,k<=i->i < n->P i = false)) st:=by
  intro lo hi f hf h1 h2 h3 h4
  refine wpS_forRange (I:=fun x c st'=>st' = st/\∃ l r,c = (none,l,r)/\l<=r/\r<=n/\r - l<=n - x/\(∀ i,i < l->P i = true)/\(∀ i,r<=i->i < n->P i = false)) ?_ ?_ ⟨rfl,lo,hi,rfl,h1,h2,by omega,h3,h4⟩
  ·intro x c st' _ hx zq1
   obtain ⟨zq2,l,r,zq3,hl,hr,hm,ha,hb⟩:=zq1
   subst zq2
   subst zq3
   have hin:r<=l\/l + (r - l) / 2 < n:=by omega
   rcases hf x l r with q | q
   ·refine wpS_mono q fun z st2 ⟨e,q2⟩=>?_
    subst e
    by_cases hge:r<=l
    ·rw [if_pos hge] at q2
     subst q2
     have:l = r:=by omega
     subst this
     exact ⟨rfl,l,rfl,hr,ha,hb⟩
    ·rw [if_neg hge] at q2
     cases hp:P (l + (r - l) / 2) with
     | true =>
      rw [if_pos hp] at q2
      subst q2
      exact ⟨rfl,_,_,rfl,by omega,by omega,by omega,fun i hi=>mono i (l + (r - l) / 2) (by omega) (by omega) hp,hb⟩
     | false =>
      rw [if_neg (by rw [hp]; exact Bool.false_ne_true)] at q2
      subst q2
      exact ⟨rfl,_,_,rfl,by omega,by omega,by omega,ha,fun i hi1 hi2=>nmono (l + (r - l) / 2) i hi1 hi2 hp⟩
   ·exact absurd hin q
  ·intro c st' zq4
   obtain ⟨zq5,l,r,zq6,hl,hr,hm,ha,hb⟩:=zq4
   subst zq5
   subst zq6
   have:l = r:=by omega
   subst this
   exact ⟨rfl,l,rfl,hr,ha,hb⟩
 cases hr:P ht with
 | true =>
  rw [if_pos rfl]
  refine wpS_bind (wpS_mono (wpS_forRange (I:=fun x c st'=>st' = st/\∃ la of,c = (none,la,of)/\la < of/\x + 1<=of/\ht + la < n/\P (ht + la) = true)
   (Q:=fun c st'=>st' = st/\∃ la of,c = (none,la,of)/\la < of/\ht + la < n/\P (ht + la) = true/\(n - ht<=of\/(ht + of < n/\P (ht + of) = false))) ?st ?en ⟨rfl,0,1,rfl,by omega,by omega,by omega,hr⟩) ?po)
  case en =>
   intro c st' zq7
   obtain ⟨zq8,la,of,zq9,a1,a2,a3,a4⟩:=zq7
   subst zq8
   subst zq9
   exact ⟨rfl,la,of,rfl,a1,a3,a4,.inl (by omega)⟩
  case st =>
   intro x c st' _ hx zq10
   obtain ⟨zq11,la,of,zq12,a1,a2,a3,a4⟩:=zq10
   subst zq11
   subst zq12
   dsimp only
   refine wpS_if (fun hge=>?_) (fun hge=>?_)
   ·skip
    exact wpS_pure ⟨rfl,la,of,rfl,a1,a3,a4,.inl hge⟩
   ·skip
    refine wpS_bind (B rfl (show ht + of < n by omega) ?_)
    cases hp:P (ht + of) with
    | true=>exact wpS_pure ⟨rfl,of,2 * of + 1,rfl,by omega,by omega,by omega,hp⟩
    | false=>exact wpS_pure ⟨rfl,la,of,rfl,a1,a3,a4,.inr ⟨by omega,hp⟩⟩
  case po =>
   intro c st' zq13
   obtain ⟨zq14,la,of,zq15,a1,a3,a4,a5⟩:=zq13
   subst zq14
   subst zq15
   refine wpS_bind (wpS_mono (S (lo:=ht + la + 1) (hi:=ht + min of (n - ht)) (fun x l h'=>by
    dsimp only
    by_cases hge:h'<=l
    ·refine .inl ?_
     rw [if_pos hge]
     exact wpS_pure ⟨rfl,by rw [if_pos hge]⟩
    ·by_cases hn:l + (h' - l) / 2 < n
     ·refine .inl ?_
      rw [if_neg hge]
      refine wpS_bind (B rfl hn ?_)
      dsimp only
      cases hp:P (l + (h' - l) / 2) with
      | true =>
       simp only [if_true]
       exact wpS_pure ⟨rfl,by rw [if_neg hge]⟩
      | false =>
       simp only [Bool.false_eq_true,if_false]
       exact wpS_pure ⟨rfl,by rw [if_neg hge]⟩
     ·exact .inr (by omega)) (by omega) (by omega) (fun i hi=>mono i (ht + la) (by omega) a3 a4) fun i hi1 hi2=>?_) fun c st' ⟨e,k,e2,b1,b2,b3⟩=>?_)
   ·rcases a5 with a5 | ⟨a5,a6⟩
    ·omega
    ·exact nmono (ht + of) i (by omega) hi2 a6
   ·subst e e2
    exact wpS_pure (h k b1 b2 b3)
 | false =>
  rw [if_neg Bool.false_ne_true]
  refine wpS_bind (wpS_mono (wpS_forRange (I:=fun x c st'=>st' = st/\∃ la of,c = (none,la,of)/\la < of/\x + 1<=of/\la<=ht/\P (ht - la) = false)
   (Q:=fun c st'=>st' = st/\∃ la of,c = (none,la,of)/\la < of/\la<=ht/\P (ht - la) = false/\(ht + 1<=of\/(of<=ht/\P (ht - of) = true))) ?st ?en ⟨rfl,0,1,rfl,by omega,by omega,by omega,hr⟩) ?po)
  case en =>
   intro c st' zq16
   obtain ⟨zq17,la,of,zq18,a1,a2,a3,a4⟩:=zq16
   subst zq17
   subst zq18
   exact ⟨rfl,la,of,rfl,a1,a3,a4,.inl (by omega)⟩
  case st =>
   intro x c st' _ hx zq19
   obtain ⟨zq20,la,of,zq21,a1,a2,a3,a4⟩:=zq19
   subst zq20
   subst zq21
   dsimp only
   refine wpS_if (fun hge=>?_) (fun hge=>?_)
   ·skip
    exact wpS_pure ⟨rfl,la,of,rfl,a1,a3,a4,.inl hge⟩
   ·skip
    refine wpS_bind (B rfl (show ht - of < n by omega) ?_)
    cases hp:P (ht - of) with
    | false=>exact wpS_pure ⟨rfl,of,2 * of + 1,rfl,by omega,by omega,by omega,hp⟩
    | true=>exact wpS_pure ⟨rfl,la,of,rfl,a1,a3,a4,.inr ⟨by omega,hp⟩⟩
  case po =>
   intro c st' zq22
   obtain ⟨zq23,la,of,zq24,a1,a3,a4,a5⟩:=zq22
   subst zq23
   subst zq24
   refine wpS_bind (wpS_mono (S (lo:=ht + 1 - min of (ht + 1)) (hi:=ht - la) (fun x l h'=>by
    dsimp only
    by_cases hge:h'<=l
    ·refine .inl ?_
     rw [if_pos hge]
     exact wpS_pure ⟨rfl,by rw [if_pos hge]⟩
    ·by_cases hn:l + (h' - l) / 2 < n
     ·refine .inl ?_
      rw [if_neg hge]
      refine wpS_bind (B rfl hn ?_)
      dsimp only
      cases hp:P (l + (h' - l) / 2) with
      | true =>
       simp only [if_true]
       exact wpS_pure ⟨rfl,by rw [if_neg hge]⟩
      | false =>
       simp only [Bool.false_eq_true,if_false]
       exact wpS_pure ⟨rfl,by rw [if_neg hge]⟩
     ·exact .inr (by omega)) (by omega) (by omega) (fun i hi=>?_) fun i hi1 hi2=>nmono (ht - la) i (by omega) hi2 a4) fun c st' ⟨e,k,e2,b1,b2,b3⟩=>?_)
   ·rcases a5 with a5 | ⟨a5,a6⟩
    ·omega
    ·exact mono i (ht - of) (by omega) (by omega) a6
   ·subst e e2
    exact wpS_pure (h k b1 b2 b3)
end
end TS
namespace TS
open PySem PyProof.Rows
section
variable {κ:KeyKind}
theorem le_refl (p:Keyed):le κ p p:=KeyOrd.kle_refl _
theorem le_trans {p q r:Keyed} (h1:le κ p q) (h2:le κ q r):le κ p r:=KeyOrd.kle_trans h1 h2
structure ML (κ:KeyKind) (a b:List Keyed) (o:List Keyed) (i j:Nat):Prop where
 perm:o.Perm (a.take i ++ b.take j)
 sor:Sor κ o
 la:∀ x ∈ o,∀ y ∈ a.drop i,le κ x y
 lb:∀ x ∈ o,∀ y ∈ b.drop j,le κ x y
theorem ML.sym {a b o:List Keyed} {i j:Nat} (m:ML κ a b o i j):ML κ b a o j i:=⟨m.perm.trans List.perm_append_comm,m.sor,m.lb,m.la⟩
theorem sor_split {l:List Keyed} (k:Nat) (h:Sor κ l):∀ x ∈ l.take k,∀ y ∈ l.drop k,le κ x y:=by
 have h':Sor κ (l.take k ++ l.drop k):=by rw [List.take_append_drop]; exact h
 exact (List.pairwise_append.mp h').2.2
theorem ML.addA {a b o:List Keyed} {i j:Nat} (m:ML κ a b o i j) (sa:Sor κ a) (k:Nat) (hk:∀ y ∈ (a.drop i).take k,∀ z ∈ b.drop j,le κ y z):ML κ a b (o ++ (a.drop i).take k) (i + k) j:=by
 have hs:Sor κ (a.drop i):=sa.sublist (List.drop_sublist _ _)
 refine ⟨?_,?_,fun x hx y hy=>?_,fun x hx y hy=>?_⟩
 ·rw [List.take_add]
  refine (List.Perm.append_right _ m.perm).trans ?_
  rw [List.append_assoc,List.append_assoc]
  exact List.Perm.append_left _ List.perm_append_comm
 ·refine List.pairwise_append.mpr ⟨m.sor,hs.sublist (List.take_sublist _ _),fun x hx y hy=>m.la x hx y (List.mem_of_mem_take hy)⟩
 ·rw [<-List.drop_drop] at hy
  rcases List.mem_append.mp hx with hx | hx
  ·exact m.la x hx y (List.mem_of_mem_drop hy)
  ·exact sor_split k hs x hx y hy
 ·rcases List.mem_append.mp hx with hx | hx
  ·exact m.lb x hx y hy
  ·exact hk x hx y hy
theorem ML.addB {a b o:List Keyed} {i j:Nat} (m:ML κ a b o i j) (sb:Sor κ b) (k:Nat) (hk:∀ y ∈ (b.drop j).take k,∀ z ∈ a.drop i,le κ y z):ML κ a b (o ++ (b.drop j).take k) i (j + k) :=
 (m.sym.addA sb k hk).sym
theorem ML.endA {a b o:List Keyed} {i j:Nat} (m:ML κ a b o i j) (sa:Sor κ a) (sb:Sor κ b) (h:∀ y ∈ a.drop i,∀ z ∈ b.drop j,le κ y z):Sor κ (o ++ a.drop i ++ b.drop j)/\(o ++ a.drop i ++ b.drop j).Perm (a ++ b):=by
 refine ⟨?_,?_⟩
 ·refine List.pairwise_append.mpr ⟨List.pairwise_append.mpr ⟨m.sor,sa.sublist (List.drop_sublist _ _),m.la⟩,sb.sublist (List.drop_sublist _ _),fun x hx y hy=>?_⟩
  rcases List.mem_append.mp hx with hx | hx
  ·exact m.lb x hx y hy
  ·exact h x hx y hy
 ·have h1:(o ++ a.drop i ++ b.drop j).Perm ((a.take i ++ b.take j) ++ a.drop i ++ b.drop j):=List.Perm.append_right _ (List.Perm.append_right _ m.perm)
  refine h1.trans ?_
  have h2:((a.take i ++ b.take j) ++ a.drop i ++ b.drop j).Perm ((a.take i ++ a.drop i) ++ (b.take j ++ b.drop j)):=by
   rw [List.append_assoc,List.append_assoc,List.append_assoc]
   refine List.Perm.append_left _ ?_
   rw [<-List.append_assoc,<-List.append_assoc]
   exact List.Perm.append_right _ List.perm_append_comm
  rw [List.take_append_drop,List.take_append_drop] at h2
  exact h2
theorem ML.endB {a b o:List Keyed} {i j:Nat} (m:ML κ a b o i j) (sa:Sor κ a) (sb:Sor κ b) (h:∀ y ∈ b.drop j,∀ z ∈ a.drop i,le κ y z):Sor κ (o ++ b.drop j ++ a.drop i)/\(o ++ b.drop j ++ a.drop i).Perm (a ++ b) :=
 ⟨(m.sym.endA sb sa h).1,(m.sym.endA sb sa h).2.trans List.perm_append_comm⟩
structure MH (κ:KeyKind) (a b:List Keyed) (o:List Keyed) (i j:Nat):Prop where
 perm:o.Perm (a.drop i ++ b.drop j)
 sor:Sor κ o
 la:∀ x ∈ o,∀ y ∈ a.take i,le κ y x
 lb:∀ x ∈ o,∀ y ∈ b.take j,le κ y x
theorem MH.sym {a b o:List Keyed} {i j:Nat} (m:MH κ a b o i j):MH κ b a o j i:=⟨m.perm.trans List.perm_append_comm,m.sor,m.lb,m.la⟩
theorem MH.addA {a b o:List Keyed} {i j:Nat} (m:MH κ a b o i j) (sa:Sor κ a) (k:Nat) (hki:k<=i) (hk:∀ y ∈ (a.take i).drop k,∀ z ∈ b.take j,le κ z y):MH κ a b ((a.take i).drop k ++ o) k j:=by
 have hs:Sor κ (a.take i):=sa.sublist (List.take_sublist _ _)
 have e:a.drop k = (a.take i).drop k ++ a.drop i:=by
  conv=>lhs; rw [<-List.take_append_drop i a]
  rw [List.drop_append]
  by_cases hl:i<=a.length
  ·rw [List.length_take,Nat.min_eq_left hl,Nat.sub_eq_zero_of_le hki,List.drop_zero]
  ·have:a.drop i = []:=List.drop_eq_nil_of_le (by lia)
   rw [this,List.drop_nil]
 have e2:(a.take i).take k = a.take k:=by rw [List.take_take,Nat.min_eq_left hki]
 refine ⟨?_,?_,fun x hx y hy=>?_,fun x hx y hy=>?_⟩
 ·rw [e,List.append_assoc]
  exact List.Perm.append_left _ m.perm
 ·exact List.pairwise_append.mpr ⟨hs.sublist (List.drop_sublist _ _),m.sor,fun x hx y hy=>m.la y hy x (List.mem_of_mem_drop hx)⟩
 ·rw [<-e2] at hy
  rcases List.mem_append.mp hx with hx | hx
  ·exact sor_split k hs y hy x hx
  ·exact m.la x hx y (List.mem_of_mem_take hy)
 ·rcases List.mem_append.mp hx with hx | hx
  ·exact hk x hx y hy
  ·exact m.lb x hx y hy
theorem MH.addB {a b o:List Keyed} {i j:Nat} (m:MH κ a b o i j) (sb:Sor κ b) (k:Nat) (hkj:k<=j) (hk:∀ y ∈ (b.take j).drop k,∀ z ∈ a.take i,le κ z y):MH κ a b ((b.take j).drop k ++ o) i k :=
 (m.sym.addA sb k hkj hk).sym
theorem MH.endA {a b o:List Keyed} {i j:Nat} (m:MH κ a b o i j) (sa:Sor κ a) (sb:Sor κ b) (h:∀ y ∈ a.take i,∀ z ∈ b.take j,le κ y z):Sor κ (a.take i ++ b.take j ++ o)/\(a.take i ++ b.take j ++ o).Perm (a ++ b):=by
 refine ⟨?_,?_⟩
 ·refine List.pairwise_append.mpr ⟨List.pairwise_append.mpr ⟨sa.sublist (List.take_sublist _ _),sb.sublist (List.take_sublist _ _),h⟩,m.sor,fun x hx y hy=>?_⟩
  rcases List.mem_append.mp hx with hx | hx
  ·exact m.la y hy x hx
  ·exact m.lb y hy x hx
 ·have h1:(a.take i ++ b.take j ++ o).Perm (a.take i ++ b.take j ++ (a.drop i ++ b.drop j)):=List.Perm.append_left _ m.perm
  refine h1.trans ?_
  have h2:(a.take i ++ b.take j ++ (a.drop i ++ b.drop j)).Perm ((a.take i ++ a.drop i) ++ (b.take j ++ b.drop j)):=by
   rw [List.append_assoc,List.append_assoc]
   refine List.Perm.append_left _ ?_
   rw [<-List.append_assoc,<-List.append_assoc]
   exact List.Perm.append_right _ List.perm_append_comm
  rw [List.take_append_drop,List.take_append_drop] at h2
  exact h2
theorem MH.endB {a b o:List Keyed} {i j:Nat} (m:MH κ a b o i j) (sa:Sor κ a) (sb:Sor κ b) (h:∀ y ∈ b.take j,∀ z ∈ a.take i,le κ y z):Sor κ (b.take j ++ a.take i ++ o)/\(b.take j ++ a.take i ++ o).Perm (a ++ b) :=
 ⟨(m.sym.endA sb sa h).1,(m.sym.endA sb sa h).2.trans List.perm_append_comm⟩
end
section
variable {prog:Program} {w:World} {A:Around} {E:Value->Shared->Prop} {s:Shared} {κ:KeyKind} {kd:SortKind}
noncomputable def setMin' (g:Nat):StateT SortSt Sem Unit:=modify fun s=>SortSt.mk' (kindOf s) (arrOf s) (pendingOf s) g (failedOf s)
noncomputable def mergeLo':Array Keyed->Array Keyed->StateT SortSt Sem (Array Keyed):=sortPriv% PySem.Builtin.mergeLo
theorem mergeLo'_eq (a b:Array Keyed):mergeLo' a b = (do
  rule "list.sort.merge-lo"
  let tot:=a.size + b.size
  let dn (o:Array Keyed) (i j:Nat):=o ++ a.extract i a.size ++ b.extract j b.size
  let lA (o:Array Keyed) (i j:Nat):=o ++ b.extract j b.size ++ a.extract i a.size
  let mut o:Array Keyed:=#[<-elem' b 0]
  let mut i:=0
  let mut j:=1
  if j == b.size then return dn o i j
  if i + 1 == a.size then return lA o i j
  let mut mg:=gallopOf (<-get)
  for _ in [0:tot] do
   let mut ac:=0
   let mut bc:=0
   for _ in [0:tot] do
    let some bw <-lt' (<-elem' b j) (<-elem' a i) | return dn o i j
    if bw then
     o:=o.push (<-elem' b j); j:=j + 1; bc:=bc + 1; ac:=0
     if j == b.size then return dn o i j
     if bc ≥ mg then break
    else
     o:=o.push (<-elem' a i); i:=i + 1; ac:=ac + 1; bc:=0
     if i + 1 == a.size then return lA o i j
     if ac ≥ mg then break
   rule "list.sort.gallop"
   mg:=mg + 1
   for _ in [0:tot] do
    if mg > 1 then mg:=mg - 1
    setMin' mg
    let some k <-gallop' false (<-elem' b j) a i (a.size - i) 0 | return dn o i j
    ac:=k
    if k > 0 then
     o:=o ++ a.extract i (i + k); i:=i + k
     if i + 1 == a.size then return lA o i j
     if i == a.size then return dn o i j
    o:=o.push (<-elem' b j); j:=j + 1
    if j == b.size then return dn o i j
    let some k <-gallop' true (<-elem' a i) b j (b.size - j) 0 | return dn o i j
    bc:=k
    if k > 0 then
     o:=o ++ b.extract j (j + k); j:=j + k
     if j == b.size then return dn o i j
    o:=o.push (<-elem' a i); i:=i + 1
    if i + 1 == a.size then return lA o i j
    if ac < 7 && bc < 7 then break
   mg:=mg + 1
   setMin' mg
  unsupported "internal:list.sort.merge-bound"):=rfl
noncomputable def Sm (st st':SortSt):Prop:=kindOf st' = kindOf st/\arrOf st' = arrOf st/\pendingOf st' = pendingOf st/\failedOf st' = failedOf st
theorem Sm.refl (st:SortSt):Sm st st:=⟨rfl,rfl,rfl,rfl⟩
theorem wpS_setMin {st st0:SortSt} {g:Nat} {Q:Unit->SortSt->Prop} (hs:Sm st0 st) (h:∀ st',Sm st0 st'->Q () st'):wpS (model prog w) A E s (setMin' g) Q st :=
 wpS_modify (h _ ⟨hs.1,hs.2.1,hs.2.2.1,hs.2.2.2⟩)
theorem mem_dt {l:List Keyed} {i k:Nat} {y:Keyed} (h:y ∈ (l.drop i).take k):∃ t,t < k/\l[i + t]? = some y:=by
 obtain ⟨t,ht,e⟩:=(List.mem_iff_getElem.mp h)
 rw [List.length_take,List.length_drop] at ht
 refine ⟨t,by lia,?_⟩
 rw [List.getElem_take,List.getElem_drop] at e
 rw [<-e]
 exact List.getElem?_eq_getElem (by lia)
theorem mem_d {l:List Keyed} {i:Nat} {y:Keyed} (h:y ∈ l.drop i):∃ t,i + t < l.length/\l[i + t]? = some y:=by
 obtain ⟨t,ht,e⟩:=(List.mem_iff_getElem.mp h)
 rw [List.length_drop] at ht
 refine ⟨t,by lia,?_⟩
 rw [List.getElem_drop] at e
 rw [<-e]
 exact List.getElem?_eq_getElem (by lia)
theorem mem_t {l:List Keyed} {i:Nat} {y:Keyed} (h:y ∈ l.take i):∃ t,t < i/\t < l.length/\l[t]? = some y:=by
 obtain ⟨t,ht,e⟩:=(List.mem_iff_getElem.mp h)
 rw [List.length_take] at ht
 refine ⟨t,by lia,by lia,?_⟩
 rw [List.getElem_take] at e
 rw [<-e]
 exact List.getElem?_eq_getElem (by lia)
theorem mem_td {l:List Keyed} {i k:Nat} {y:Keyed} (h:y ∈ (l.take i).drop k):∃ t,k<=t/\t < i/\l[t]? = some y:=by
 refine o1_2 (mem_d h) fun t h1 h2=>?_
 rw [List.length_take] at h1
 rw [List.getElem?_take_of_lt (by lia)] at h2
 exact ⟨k + t,by lia,by lia,h2⟩
theorem sor_le {l:List Keyed} (h:Sor κ l) {i j:Nat} {p q:Keyed} (hij:i<=j) (hp:l[i]? = some p) (hq:l[j]? = some q):le κ p q:=by
 obtain ⟨h1,rfl⟩:=List.getElem?_eq_some_iff.mp hp
 obtain ⟨h2,rfl⟩:=List.getElem?_eq_some_iff.mp hq
 rcases Nat.lt_or_eq_of_le hij with z | z
 ·exact List.pairwise_iff_getElem.mp h i j h1 h2 z
 ·subst z; exact le_refl _
theorem head_le {l:List Keyed} (h:Sor κ l) {i:Nat} {p:Keyed} (hp:l[i]? = some p):∀ z ∈ l.drop i,le κ p z:=fun z hz=>by
 refine o1_2 (mem_d hz) fun t _ e=>?_
 exact sor_le h (Nat.le_add_right _ _) hp e
theorem ar_get {a:Array Keyed} {i:Nat} {p:Keyed}:a[i]? = some p ↔ a.toList[i]? = some p:=by rw [Array.getElem?_toList]
theorem ar_at {a:Array Keyed} {i:Nat} (h:i < a.size):∃ p,a[i]? = some p:=⟨a[i],getElem?_pos a i h⟩
theorem take1 {l:List Keyed} {i:Nat} {p:Keyed} (h:l[i]? = some p):(l.drop i).take 1 = [p]:=by
 obtain ⟨h1,rfl⟩:=List.getElem?_eq_some_iff.mp h
 rw [List.drop_eq_getElem_cons h1]
 rfl
theorem ext_list (a:Array Keyed) (i k:Nat):(a.extract i (i + k)).toList = (a.toList.drop i).take k:=by
 rw [Array.toList_extract,List.extract_eq_take_drop,Nat.add_sub_cancel_left]
theorem ext_end (a:Array Keyed) (i:Nat):(a.extract i a.size).toList = a.toList.drop i:=by
 rw [Array.toList_extract,List.extract_eq_take_drop,List.take_of_length_le]
 rw [List.length_drop,Array.length_toList]
 exact Nat.le_refl _
theorem ext_beg (a:Array Keyed) (i:Nat):(a.extract 0 i).toList = a.toList.take i:=by
 rw [Array.toList_extract,List.extract_eq_take_drop,List.drop_zero,Nat.sub_zero]
noncomputable def Rm (κ:KeyKind) (a b r:Array Keyed):Prop:=Sor κ r.toList/\r.toList.Perm (a.toList ++ b.toList)
structure Pre (κ:KeyKind) (a b:Array Keyed):Prop where
 sa:Sor κ a.toList
 sb:Sor κ b.toList
 ka:∀ (i:Nat) p,a[i]? = some p->Has κ p
 kb:∀ (i:Nat) p,b[i]? = some p->Has κ p
 na:1<=a.size
 nb:1<=b.size
 first:∀ q,b[0]? = some q->∀ z ∈ a.toList,le κ q z
 last:∀ p,a[a.size - 1]? = some p->∀ z ∈ b.toList,le κ z p
section
variable {a b o:Array Keyed} {i j k:Nat} {p q:Keyed}
theorem Pre.pushB (P:Pre κ a b) (m:ML κ a.toList b.toList o.toList i j) (hq:b[j]? = some q) (h:∀ z ∈ a.toList.drop i,le κ q z):ML κ a.toList b.toList (o.push q).toList i (j + 1):=by
 have h1:=m.addB P.sb 1 (by rw [take1 (ar_get.mp hq)]; intro y hy; rw [List.mem_singleton.mp hy]; exact h)
 rw [take1 (ar_get.mp hq)] at h1
 rw [Array.toList_push]
 exact h1
theorem Pre.pushA (P:Pre κ a b) (m:ML κ a.toList b.toList o.toList i j) (hp:a[i]? = some p) (h:∀ z ∈ b.toList.drop j,le κ p z):ML κ a.toList b.toList (o.push p).toList (i + 1) j:=by
 have h1:=m.addA P.sa 1 (by rw [take1 (ar_get.mp hp)]; intro y hy; rw [List.mem_singleton.mp hy]; exact h)
 rw [take1 (ar_get.mp hp)] at h1
 rw [Array.toList_push]
 exact h1
theorem Pre.extA (P:Pre κ a b) (m:ML κ a.toList b.toList o.toList i j) (h:∀ y ∈ (a.toList.drop i).take k,∀ z ∈ b.toList.drop j,le κ y z):ML κ a.toList b.toList (o ++ a.extract i (i + k)).toList (i + k) j:=by
 rw [Array.toList_append,ext_list]
 exact m.addA P.sa k h
theorem Pre.extB (P:Pre κ a b) (m:ML κ a.toList b.toList o.toList i j) (h:∀ y ∈ (b.toList.drop j).take k,∀ z ∈ a.toList.drop i,le κ y z):ML κ a.toList b.toList (o ++ b.extract j (j + k)).toList i (j + k):=by
 rw [Array.toList_append,ext_list]
 exact m.addB P.sb k h
theorem Pre.doneB (P:Pre κ a b) (m:ML κ a.toList b.toList o.toList i j) (hj:j = b.size):Rm κ a b (o ++ a.extract i a.size ++ b.extract j b.size):=by
 unfold Rm
 rw [Array.toList_append,Array.toList_append,ext_end,ext_end]
 refine m.endA P.sa P.sb fun y _ z hz=>?_
 rw [List.drop_eq_nil_of_le (by rw [Array.length_toList]; lia)] at hz
 exact absurd hz (by simp)
theorem Pre.doneA (P:Pre κ a b) (m:ML κ a.toList b.toList o.toList i j) (hi:i = a.size):Rm κ a b (o ++ a.extract i a.size ++ b.extract j b.size):=by
 unfold Rm
 rw [Array.toList_append,Array.toList_append,ext_end,ext_end]
 refine m.endA P.sa P.sb fun y hy z _=>?_
 rw [List.drop_eq_nil_of_le (by rw [Array.length_toList]; lia)] at hy
 exact absurd hy (by simp)
theorem Pre.lastA (P:Pre κ a b) (m:ML κ a.toList b.toList o.toList i j) (hi:i + 1 = a.size):Rm κ a b (o ++ b.extract j b.size ++ a.extract i a.size):=by
 unfold Rm
 rw [Array.toList_append,Array.toList_append,ext_end,ext_end]
 refine m.endB P.sa P.sb fun y hy z hz=>?_
 refine o1_2 (mem_d hz) fun t h1 h2=>?_
 rw [Array.length_toList] at h1
 have e:i + t = a.size - 1:=by lia
 rw [e] at h2
 exact P.last z (ar_get.mpr h2) y (List.mem_of_mem_drop hy)
end
theorem Sm.knd {st st':SortSt} (h:Sm st st') {k:SortKind} (hk:kindOf st = k):kindOf st' = k:=h.1.trans hk
theorem wpS_gal (C:Cmp prog w A s κ kd) {st:SortSt} {left:Bool} {ky:Keyed} {ar:Array Keyed} {bs n ht:Nat} {Q:Option Nat->SortSt->Prop} (hk:kindOf st = kd) (hky:Has κ ky)
  (hsz:bs + n<=ar.size) (hh:∀ (i:Nat) p,ar[i]? = some p->Has κ p) (hs:∀ (u v:Nat) p q,u<=v->v < n->ar[bs + u]? = some p->ar[bs + v]? = some q->le κ p q) (hht:ht < n)
  (h:∀ k,k<=n->(∀ (t:Nat) p,t < k->ar[bs + t]? = some p->PB κ left ky p = true)->(∀ (t:Nat) p,k<=t->t < n->ar[bs + t]? = some p->PB κ left ky p = false)->Q (some k) st) :
  wpS (model prog w) A E s (gallop' left ky ar bs n ht) Q st:=by
 have key:∀ t,t < n->∃ p,ar[bs + t]? = some p:=fun t ht=>ar_at (by lia)
 refine wpS_gallop C hk hky (fun t=>match ar[bs + t]? with | some p=>PB κ left ky p | none=>false) (fun i hi=>?_) (fun i j hij hj hp=>?_) hht fun k hk1 h1 h2=>?_
 ·refine o1_1 (key i hi) fun p hp=>?_
  exact ⟨p,hp,hh _ p hp,by rw [hp]⟩
 ·refine o1_1 (key i (by lia)) fun p e1=>?_
  refine o1_1 (key j hj) fun q e2=>?_
  rw [e2] at hp
  rw [e1]
  have l:=hs i j p q hij hj e1 e2
  dsimp only at hp ⊢
  unfold PB at hp ⊢
  cases left with
  | true =>
   simp only [if_true] at hp ⊢
   exact KeyOrd.klt_of_kle_of_klt l hp
  | false =>
   simp only [Bool.false_eq_true,if_false,Bool.not_eq_true'] at hp ⊢
   exact KeyOrd.kle_trans l hp
 ·refine h k hk1 (fun t p ht hp=>?_) fun t p ht1 ht2 hp=>?_
  ·have:=h1 t ht
   rw [hp] at this
   exact this
  ·have:=h2 t ht1 ht2
   rw [hp] at this
   exact this
theorem PB_right {ky p:Keyed} (h:PB κ false ky p = true):le κ p ky:=by
 unfold PB at h
 show κ.blt (kk κ ky) (kk κ p) = false
 simpa using h
theorem PB_right' {ky p:Keyed} (h:PB κ false ky p = false):κ.klt (kk κ ky) (kk κ p):=by
 unfold PB at h
 show κ.blt (kk κ ky) (kk κ p) = true
 simpa using h
theorem PB_left {ky p:Keyed} (h:PB κ true ky p = true):κ.klt (kk κ p) (kk κ ky):=by
 unfold PB at h
 show κ.blt (kk κ p) (kk κ ky) = true
 simpa using h
theorem PB_left' {ky p:Keyed} (h:PB κ true ky p = false):le κ ky p:=by
 unfold PB at h
 show κ.blt (kk κ p) (kk κ ky) = false
 simpa using h
section
variable {α:Type} {Q:α->SortSt->Prop} {st:SortSt}
theorem wpS_jp1 {c:Prop} {_:Decidable c} {t:StateT SortSt Sem α} {F:Nat->StateT SortSt Sem α} (x:Nat) {y:Nat} (h:∀ g,wpS (model prog w) A E s (F g) Q st) (e:t = F x):wpS (model prog w) A E s (if c then t else F y) Q st:=by
 subst e
 exact wpS_if (fun _=>h _) fun _=>h _
theorem wpS_jp2 {c:Prop} {_:Decidable c} {t:StateT SortSt Sem α} {F:Array Keyed->Nat->StateT SortSt Sem α} {o:Array Keyed} {i:Nat} (R:Array Keyed->Nat->Prop) (h:∀ o i,R o i->wpS (model prog w) A E s (F o i) Q st)
  (hT:(∀ o i,R o i->wpS (model prog w) A E s (F o i) Q st)->c->wpS (model prog w) A E s t Q st) (hE:¬ c->R o i):wpS (model prog w) A E s (if c then t else F o i) Q st:=wpS_if (hT h) fun z=>h _ _ (hE z)
end
theorem wpS_out {α β:Type} {r0:Sem Unit} {el:StateT SortSt Sem Keyed} {x0:Keyed} {c1 c2:Prop} {_:Decidable c1} {_:Decidable c2} {t1 t2:Keyed->StateT SortSt Sem α} {ini:Keyed->SortSt->β} {n:Nat} {f:Nat->β->StateT SortSt Sem (ForInStep β)} {g:β->StateT SortSt Sem α} {Q:α->SortSt->Prop} {st:SortSt}
  (hr:∀ R:Unit->SortSt->Prop,R () st->wpS (model prog w) A E s (liftM r0:StateT SortSt Sem Unit) R st) (he:∀ R:Keyed->SortSt->Prop,R x0 st->wpS (model prog w) A E s el R st) (h1:c1->wpS (model prog w) A E s (t1 x0) Q st) (h2:¬ c1->c2->wpS (model prog w) A E s (t2 x0) Q st)
  (h3:¬ c1->¬ c2->wpS (model prog w) A E s (forIn [0:n] (ini x0 st) f) (fun c st'=>wpS (model prog w) A E s (g c) Q st') st) :
  wpS (model prog w) A E s ((liftM r0:StateT SortSt Sem Unit) >>= fun _=>el >>= fun x=>if c1 then t1 x else if c2 then t2 x else get >>= fun st'=>forIn [0:n] (ini x st') f >>= g) Q st :=
 wpS_bind (hr _ (wpS_bind (he _ (wpS_if h1 fun z1=>wpS_if (h2 z1) fun z2=>wpS_bind (wpS_get (wpS_bind (h3 z1 z2)))))))
noncomputable def MR (κ:KeyKind) (a b:Array Keyed) (st:SortSt) {β:Type} (c:Option (Array Keyed) × β) (st':SortSt):Prop:=Sm st st'/\∃ r,c.1 = some r/\Rm κ a b r
theorem MR.mk {a b r:Array Keyed} {st st':SortSt} {β:Type} {c:β} (sm:Sm st st') (h:Rm κ a b r):MR κ a b st (some r,c) st':=⟨sm,r,rfl,h⟩
structure LoP (κ:KeyKind) (a b:Array Keyed) (n:Nat) (o:Array Keyed) (i j:Nat):Prop where
 m:ML κ a.toList b.toList o.toList i j
 hi:i + 1 < a.size
 hj:j < b.size
 hn:n<=i + j
theorem LoP.putB {a b o o':Array Keyed} {n i j:Nat} (h:LoP κ a b n o i j) (m:ML κ a.toList b.toList o'.toList i (j + 1)) (e:j + 1 ≠ b.size):LoP κ a b (n + 1) o' i (j + 1):=⟨m,h.hi,Nat.lt_of_le_of_ne h.hj e,Nat.succ_le_succ h.hn⟩
theorem LoP.putA {a b o o':Array Keyed} {n i j:Nat} (h:LoP κ a b n o i j) (m:ML κ a.toList b.toList o'.toList (i + 1) j) (e:i + 1 + 1 ≠ a.size):LoP κ a b (n + 1) o' (i + 1) j:=⟨m,Nat.lt_of_le_of_ne h.hi e,h.hj,by rw [Nat.add_right_comm]; exact Nat.succ_le_succ h.hn⟩
theorem LoP.mono {a b o:Array Keyed} {n n' i j:Nat} (h:LoP κ a b n o i j) (l:n'<=n):LoP κ a b n' o i j:=⟨h.m,h.hi,h.hj,Nat.le_trans l h.hn⟩
noncomputable def LoI1 (κ:KeyKind) (a b:Array Keyed) (st:SortSt) (n:Nat) (c:Option (Array Keyed) × Array Keyed × Nat × Nat × Nat) (st':SortSt):Prop:=Sm st st'/\∃ o i j mg,c = (none,o,i,j,mg)/\LoP κ a b n o i j
noncomputable def LoI2 (κ:KeyKind) (a b:Array Keyed) (st:SortSt) (n:Nat) (c:Option (Array Keyed) × Array Keyed × Nat × Nat × Nat × Nat) (st':SortSt):Prop:=Sm st st'/\∃ o i j ac bc,c = (none,o,i,j,ac,bc)/\LoP κ a b n o i j
noncomputable def LoI3 (κ:KeyKind) (a b:Array Keyed) (st:SortSt) (n:Nat) (c:Option (Array Keyed) × Array Keyed × Nat × Nat × Nat × Nat × Nat) (st':SortSt):Prop:=Sm st st'/\∃ o i j mg ac bc,c = (none,o,i,j,mg,ac,bc)/\LoP κ a b n o i j
theorem LoI2.mk {a b o:Array Keyed} {st st':SortSt} {n i j ac bc:Nat} (sm:Sm st st') (h:LoP κ a b n o i j):LoI2 κ a b st n (none,o,i,j,ac,bc) st':=⟨sm,_,_,_,_,_,rfl,h⟩
theorem LoI3.mk {a b o:Array Keyed} {st st':SortSt} {n i j mg ac bc:Nat} (sm:Sm st st') (h:LoP κ a b n o i j):LoI3 κ a b st n (none,o,i,j,mg,ac,bc) st':=⟨sm,_,_,_,_,_,_,rfl,h⟩
theorem MR.elim {a b:Array Keyed} {st st':SortSt} {β:Type} {c:Option (Array Keyed) × β} {m:Option (Array Keyed) × β->Prop} (h:MR κ a b st c st') (k:∀ r d,Sm st st'->Rm κ a b r->m (some r,d)):m c:=by
 obtain ⟨x,d⟩:=c
 obtain ⟨sm,r,e,hr⟩:=h
 cases e
 exact k r d sm hr
theorem LoI1.elim {a b:Array Keyed} {st st':SortSt} {n:Nat} {c:Option (Array Keyed) × Array Keyed × Nat × Nat × Nat} {m:Option (Array Keyed) × Array Keyed × Nat × Nat × Nat->Prop} (h:LoI1 κ a b st n c st') (k:∀ o i j mg,Sm st st'->LoP κ a b n o i j->m (none,o,i,j,mg)):m c:=by
 obtain ⟨sm,o,i,j,mg,zq1,p⟩:=h
 subst zq1
 exact k o i j mg sm p
theorem LoI2.elim {a b:Array Keyed} {st st':SortSt} {n:Nat} {c:Option (Array Keyed) × Array Keyed × Nat × Nat × Nat × Nat} {m:Option (Array Keyed) × Array Keyed × Nat × Nat × Nat × Nat->Prop} (h:LoI2 κ a b st n c st') (k:∀ o i j ac bc,Sm st st'->LoP κ a b n o i j->m (none,o,i,j,ac,bc)):m c:=by
 obtain ⟨sm,o,i,j,ac,bc,zq2,p⟩:=h
 subst zq2
 exact k o i j ac bc sm p
theorem LoI3.elim {a b:Array Keyed} {st st':SortSt} {n:Nat} {c:Option (Array Keyed) × Array Keyed × Nat × Nat × Nat × Nat × Nat} {m:Option (Array Keyed) × Array Keyed × Nat × Nat × Nat × Nat × Nat->Prop} (h:LoI3 κ a b st n c st') (k:∀ o i j mg ac bc,Sm st st'->LoP κ a b n o i j->m (none,o,i,j,mg,ac,bc)):m c:=by
 obtain ⟨sm,o,i,j,mg,ac,bc,zq3,p⟩:=h
 subst zq3
 exact k o i j mg ac bc sm p
theorem ar_get! {a:Array Keyed} {i:Nat} (h:i < a.size):a[i]? = some a[i]:=getElem?_pos a i h
theorem wpS_mergeLo (C:Cmp prog w A s κ kd) {st:SortSt} {a b:Array Keyed} {Q:Array Keyed->SortSt->Prop} (hk:kindOf st = kd) (P:Pre κ a b)
  (h:∀ r st',Sm st st'->Rm κ a b r->Q r st'):wpS (model prog w) A E s (mergeLo' a b) Q st:=by
 rw [mergeLo'_eq]
 have hb0:=ar_get! (a:=b) P.nb
 generalize b[0]'P.nb = b0 at hb0
 have m0:ML κ a.toList b.toList (#[]:Array Keyed).toList 0 0:=⟨by simp,List.Pairwise.nil,fun x hx=>absurd hx (by simp),fun x hx=>absurd hx (by simp)⟩
 have m1:ML κ a.toList b.toList (#[b0]:Array Keyed).toList 0 1:=by
  have:=P.pushB m0 hb0 (by rw [List.drop_zero]; exact P.first b0 hb0)
  simpa using this
 apply wpS_out (x0:=b0) (fun R z=>wpS_lift (wpAny_rule ⟨rfl,z⟩)) (fun R z=>wpS_elem hb0 z)
 case h1=>exact fun hb1=>wpS_pure (h _ _ (Sm.refl _) (P.doneB m1 (eq_of_beq hb1)))
 case h2=>exact fun _ ha1=>wpS_pure (h _ _ (Sm.refl _) (P.lastA m1 (eq_of_beq ha1)))
 intro hb1 ha1
 have p1:LoP κ a b 1 #[b0] 0 1:=⟨m1,Nat.lt_of_le_of_ne P.na fun z=>ha1 (beq_iff_eq.mpr z),Nat.lt_of_le_of_ne P.nb fun z=>hb1 (beq_iff_eq.mpr z),Nat.le_refl _⟩
 refine wpS_mono (wpS_forRange (I:=fun x=>LoI1 κ a b st (x + 1)) (Q:=MR κ a b st) ?st ?en ⟨Sm.refl _,_,_,_,_,rfl,p1⟩) ?po
 case po =>
  intro c st' z
  apply z.elim
  intro r d sm hr
  exact wpS_pure (h r st' sm hr)
 case en =>
  intro c st' zq4
  obtain ⟨sm,o,i,j,mg,zq5,p⟩:=zq4
  subst zq5
  obtain ⟨_,h1,h2,h3⟩:=p
  exfalso
  lia
 case st =>
  intro x c st' _ hx hI
  apply hI.elim
  intro o i j mg sm p
  refine wpS_bind (wpS_mono (wpS_forRange (I:=fun _=>LoI2 κ a b st (x + 1)) (Q:=fun c st'=>MR κ a b st c st'\/LoI2 κ a b st (x + 1) c st') ?st1 ?en1 (LoI2.mk sm p)) ?po1)
  case en1=>exact fun c st2 z=>.inr z
  case st1 =>
   intro x2 c st2 _ _ hI
   apply hI.elim
   intro o i' j' ac bc sm2 p2
   have hbj:=ar_get! (a:=b) p2.hj
   have hai:=ar_get! (a:=a) (Nat.lt_of_succ_lt p2.hi)
   generalize b[j']'p2.hj = bj at hbj
   generalize a[i']'(Nat.lt_of_succ_lt p2.hi) = ai at hai
   refine wpS_bind (wpS_elem hbj (wpS_bind (wpS_elem hai (wpS_bind (wpS_lt C (sm2.knd hk) (P.kb _ _ hbj) (P.ka _ _ hai) ?_)))))
   refine wpS_if (fun hlt=>wpS_bind (wpS_elem hbj ?_)) fun hlt=>wpS_bind (wpS_elem hai ?_)
   ·have m3:=P.pushB p2.m hbj fun z hz=>le_trans (KeyOrd.kle_of_klt hlt) (head_le P.sa (ar_get.mp hai) z hz)
    refine wpS_ifN (fun e1=>wpS_pure (.inl (MR.mk sm2 (P.doneB m3 e1)))) fun e1=>?_
    have p3:=(p2.putB m3 e1).mono (Nat.le_succ _)
    exact wpS_if (fun _=>wpS_pure (.inr (LoI2.mk sm2 p3))) fun _=>wpS_pure (LoI2.mk sm2 p3)
   ·have m3:=P.pushA p2.m hai fun z hz=>le_trans (show le κ ai bj from Bool.eq_false_iff.mpr hlt) (head_le P.sb (ar_get.mp hbj) z hz)
    refine wpS_ifN (fun e1=>wpS_pure (.inl (MR.mk sm2 (P.lastA m3 e1)))) fun e1=>?_
    have p3:=(p2.putA m3 e1).mono (Nat.le_succ _)
    exact wpS_if (fun _=>wpS_pure (.inr (LoI2.mk sm2 p3))) fun _=>wpS_pure (LoI2.mk sm2 p3)
  case po1 =>
   intro c st2 z
   rcases z with z | z
   ·apply z.elim
    intro r d sm2 hr
    exact wpS_pure (MR.mk sm2 hr)
   ·apply z.elim
    intro o2 i2 j2 ac bc sm2 p2
    refine wpS_bind (wpS_lift (wpAny_rule ⟨rfl,?_⟩))
    refine wpS_bind (wpS_mono (wpS_forRange (I:=fun x3=>LoI3 κ a b st (x + 1 + x3)) (Q:=fun c st'=>MR κ a b st c st'\/LoI3 κ a b st (x + 1 + 1) c st') ?st2 ?en2 (LoI3.mk sm2 p2)) ?po2)
    case en2 =>
     intro c st3 zq6
     obtain ⟨sm3,o',i',j',mg',ac,bc,zq7,p3⟩:=zq6
     subst zq7
     refine .inr (LoI3.mk sm3 (p3.mono ?_))
     have:=P.na
     lia
    case po2 =>
     intro c st3 z
     rcases z with z | z
     ·apply z.elim
      intro r d sm3 hr
      exact wpS_pure (MR.mk sm3 hr)
     ·apply z.elim
      intro o' i' j' mg' ac bc sm3 p3
      refine wpS_bind (wpS_setMin sm3 fun st4 sm4=>?_)
      exact wpS_pure ⟨sm4,_,_,_,_,rfl,p3⟩
    case st2 =>
     intro x3 c st3 _ _ hI
     apply hI.elim
     intro o3 i3 j3 mg3 ac3 bc3 sm3 p3
     have hbj:=ar_get! (a:=b) p3.hj
     generalize b[j3]'p3.hj = bj at hbj
     have hi3:i3 + (a.size - i3)<=a.size:=by rw [Nat.add_sub_cancel' (Nat.le_of_lt (Nat.lt_of_succ_lt p3.hi))]; exact Nat.le_refl _
     have hj3:=p3.hj
     apply wpS_jp1 (mg3 - 1) (y:=mg3)
     case e=>exact rfl
     intro g
     refine wpS_bind (wpS_setMin sm3 fun st4 sm4=>?_)
     refine wpS_bind (wpS_elem hbj (wpS_bind (wpS_gal C (sm4.knd hk) (P.kb _ _ hbj) hi3 P.ka (fun u v p q huv _ e1 e2=>sor_le P.sa (Nat.add_le_add_left huv _) (ar_get.mp e1) (ar_get.mp e2)) (Nat.sub_pos_of_lt (Nat.lt_of_succ_lt p3.hi)) fun k hk1 k1 k2=>?_)))
     have m4:ML κ a.toList b.toList (o3 ++ a.extract i3 (i3 + k)).toList (i3 + k) j3:=P.extA p3.m fun y hy z hz=>by
      refine o1_2 (mem_dt hy) fun t ht e=>?_
      exact le_trans (PB_right (k1 t y ht (ar_get.mpr e))) (head_le P.sb (ar_get.mp hbj) z hz)
     have hbz:∀ z ∈ a.toList.drop (i3 + k),le κ bj z:=fun z hz=>by
      refine o1_2 (mem_d hz) fun t ht e=>?_
      rw [Array.length_toList] at ht
      exact KeyOrd.kle_of_klt (PB_right' (k2 (k + t) z (Nat.le_add_right _ _) (by lia) (by rw [<-Nat.add_assoc]; exact ar_get.mpr e)))
     apply wpS_jp2 (o:=o3) (i:=i3) (fun o i=>LoP κ a b (x + 1 + x3) o i j3/\∀ z ∈ a.toList.drop i,le κ bj z)
     ·intro o4 i4 zq8
      refine o0_2 zq8 fun p4 hbz=>?_
      refine wpS_bind (wpS_elem hbj ?_)
      have m5:=P.pushB p4.m hbj hbz
      refine wpS_ifN (fun e3=>wpS_pure (.inl (MR.mk sm4 (P.doneB m5 e3)))) fun e3=>?_
      have p5:=p4.putB m5 e3
      generalize o4.push bj = o5 at m5 p5 ⊢
      generalize j3 + 1 = j5 at m5 p5 ⊢
      have hai:=ar_get! (a:=a) (Nat.lt_of_succ_lt p5.hi)
      generalize a[i4]'(Nat.lt_of_succ_lt p5.hi) = ai at hai
      refine wpS_bind (wpS_elem hai (wpS_bind (wpS_gal C (sm4.knd hk) (P.ka _ _ hai) (by rw [Nat.add_sub_cancel' (Nat.le_of_lt p5.hj)]; exact Nat.le_refl _) P.kb (fun u v p q huv _ e1 e2=>sor_le P.sb (Nat.add_le_add_left huv _) (ar_get.mp e1) (ar_get.mp e2)) (Nat.sub_pos_of_lt p5.hj) fun k' hk1' k1' k2'=>?_)))
      have haz:∀ z ∈ b.toList.drop (j5 + k'),le κ ai z:=fun z hz=>by
       refine o1_2 (mem_d hz) fun t ht e=>?_
       rw [Array.length_toList] at ht
       exact PB_left' (k2' (k' + t) z (Nat.le_add_right _ _) (by lia) (by rw [<-Nat.add_assoc]; exact ar_get.mpr e))
      apply wpS_jp2 (o:=o5) (i:=j5) (fun o j=>LoP κ a b (x + 1 + x3 + 1) o i4 j/\∀ z ∈ b.toList.drop j,le κ ai z)
      ·intro o6 j6 zq9
       refine o0_2 zq9 fun p6 haz=>?_
       refine wpS_bind (wpS_elem hai ?_)
       have m7:=P.pushA p6.m hai haz
       refine wpS_ifN (fun e5=>wpS_pure (.inl (MR.mk sm4 (P.lastA m7 e5)))) fun e5=>?_
       have p7:=p6.putA m7 e5
       exact wpS_if (fun _=>wpS_pure (.inr (LoI3.mk sm4 (p7.mono (by lia))))) fun _=>wpS_pure (LoI3.mk sm4 (p7.mono (by lia)))
      ·intro hF hk0
       have m6:ML κ a.toList b.toList (o5 ++ b.extract j5 (j5 + k')).toList i4 (j5 + k'):=P.extB m5 fun y hy z hz=>by
        refine o1_2 (mem_dt hy) fun t ht e=>?_
        exact le_trans (KeyOrd.kle_of_klt (PB_left (k1' t y ht (ar_get.mpr e)))) (head_le P.sa (ar_get.mp hai) z hz)
       have hj5:=p5.hj
       exact wpS_ifN (fun e4=>wpS_pure (.inl (MR.mk sm4 (P.doneB m6 e4)))) fun e4=>hF _ _ ⟨⟨m6,p5.hi,by lia,Nat.le_trans p5.hn (by lia)⟩,haz⟩
      ·intro hk0
       have z0:k' = 0:=Nat.eq_zero_of_not_pos hk0
       subst z0
       exact ⟨p5,haz⟩
     ·intro hF hk0
      have hi:=p3.hi
      exact wpS_ifN (fun e1=>wpS_pure (.inl (MR.mk sm4 (P.lastA m4 e1)))) fun e1=>wpS_ifN (fun e2=>wpS_pure (.inl (MR.mk sm4 (P.doneA m4 e2)))) fun e2=>hF _ _ ⟨⟨m4,by lia,p3.hj,Nat.le_trans p3.hn (by lia)⟩,hbz⟩
     ·intro hk0
      have z0:k = 0:=Nat.eq_zero_of_not_pos hk0
      subst z0
      exact ⟨p3,hbz⟩
end
end TS
namespace TS
open PySem PyProof.Rows
section
variable {prog:Program} {w:World} {A:Around} {E:Value->Shared->Prop} {s:Shared} {κ:KeyKind} {kd:SortKind}
noncomputable def mergeHi':Array Keyed->Array Keyed->StateT SortSt Sem (Array Keyed):=sortPriv% PySem.Builtin.mergeHi
theorem mergeHi'_eq (a b:Array Keyed):mergeHi' a b = (do
  rule "list.sort.merge-hi"
  let tot:=a.size + b.size
  let dn (o:Array Keyed) (i j:Nat):=a.extract 0 i ++ b.extract 0 j ++ o.reverse
  let fB (o:Array Keyed) (i j:Nat):=b.extract 0 j ++ a.extract 0 i ++ o.reverse
  let mut i:=a.size - 1
  let mut j:=b.size
  let mut o:Array Keyed:=#[<-elem' a i]
  if i == 0 then return dn o i j
  if j == 1 then return fB o i j
  let mut mg:=gallopOf (<-get)
  for _ in [0:tot] do
   let mut ac:=0
   let mut bc:=0
   for _ in [0:tot] do
    let some aw <-lt' (<-elem' b (j - 1)) (<-elem' a (i - 1)) | return dn o i j
    if aw then
     i:=i - 1; o:=o.push (<-elem' a i); ac:=ac + 1; bc:=0
     if i == 0 then return dn o i j
     if ac ≥ mg then break
    else
     j:=j - 1; o:=o.push (<-elem' b j); bc:=bc + 1; ac:=0
     if j == 1 then return fB o i j
     if bc ≥ mg then break
   rule "list.sort.gallop"
   mg:=mg + 1
   for _ in [0:tot] do
    if mg > 1 then mg:=mg - 1
    setMin' mg
    let some at_ <-gallop' false (<-elem' b (j - 1)) a 0 i (i - 1) | return dn o i j
    let k:=i - at_
    ac:=k
    if k > 0 then
     o:=o ++ (a.extract at_ i).reverse; i:=at_
     if i == 0 then return dn o i j
    j:=j - 1; o:=o.push (<-elem' b j)
    if j == 1 then return fB o i j
    let some at_ <-gallop' true (<-elem' a (i - 1)) b 0 j (j - 1) | return dn o i j
    let k:=j - at_
    bc:=k
    if k > 0 then
     o:=o ++ (b.extract at_ j).reverse; j:=at_
     if j == 1 then return fB o i j
     if j == 0 then return dn o i j
    i:=i - 1; o:=o.push (<-elem' a i)
    if i == 0 then return dn o i j
    if ac < 7 && bc < 7 then break
   mg:=mg + 1
   setMin' mg
  unsupported "internal:list.sort.merge-bound"):=rfl
noncomputable abbrev MHa (κ:KeyKind) (a b o:Array Keyed) (i j:Nat):Prop:=MH κ a.toList b.toList o.toList.reverse i j
section
variable {a b o:Array Keyed} {i j k:Nat} {p q:Keyed}
theorem td1 {l:List Keyed} {i:Nat} {p:Keyed} (hi:1<=i) (h:l[i - 1]? = some p):(l.take i).drop (i - 1) = [p]:=by
 rw [List.drop_take,show i - (i - 1) = 1 by lia]
 exact take1 h
theorem ext_mid (a:Array Keyed) (k i:Nat):(a.extract k i).toList = (a.toList.take i).drop k:=by
 rw [Array.toList_extract,List.extract_eq_take_drop,List.drop_take]
theorem last_le {l:List Keyed} (h:Sor κ l) {i:Nat} {p:Keyed} (hp:l[i - 1]? = some p):∀ z ∈ l.take i,le κ z p:=fun z hz=>by
 refine o1_3 (mem_t hz) fun t h1 _ e=>?_
 exact sor_le h (by lia) e hp
theorem Pre.hpA (P:Pre κ a b) (m:MHa κ a b o i j) (hi:1<=i) (hp:a[i - 1]? = some p) (h:∀ z ∈ b.toList.take j,le κ z p):MHa κ a b (o.push p) (i - 1) j:=by
 have h1:=m.addA P.sa (i - 1) (by lia) (by rw [td1 hi (ar_get.mp hp)]; intro y hy; rw [List.mem_singleton.mp hy]; exact h)
 rw [td1 hi (ar_get.mp hp)] at h1
 unfold MHa
 rw [Array.toList_push,List.reverse_append]
 exact h1
theorem Pre.hpB (P:Pre κ a b) (m:MHa κ a b o i j) (hj:1<=j) (hq:b[j - 1]? = some q) (h:∀ z ∈ a.toList.take i,le κ z q):MHa κ a b (o.push q) i (j - 1):=by
 have h1:=m.addB P.sb (j - 1) (by lia) (by rw [td1 hj (ar_get.mp hq)]; intro y hy; rw [List.mem_singleton.mp hy]; exact h)
 rw [td1 hj (ar_get.mp hq)] at h1
 unfold MHa
 rw [Array.toList_push,List.reverse_append]
 exact h1
theorem Pre.heA (P:Pre κ a b) (m:MHa κ a b o i j) (hk:k<=i) (h:∀ y ∈ (a.toList.take i).drop k,∀ z ∈ b.toList.take j,le κ z y):MHa κ a b (o ++ (a.extract k i).reverse) k j:=by
 unfold MHa
 rw [Array.toList_append,Array.toList_reverse,List.reverse_append,List.reverse_reverse,ext_mid]
 exact m.addA P.sa k hk h
theorem Pre.heB (P:Pre κ a b) (m:MHa κ a b o i j) (hk:k<=j) (h:∀ y ∈ (b.toList.take j).drop k,∀ z ∈ a.toList.take i,le κ z y):MHa κ a b (o ++ (b.extract k j).reverse) i k:=by
 unfold MHa
 rw [Array.toList_append,Array.toList_reverse,List.reverse_append,List.reverse_reverse,ext_mid]
 exact m.addB P.sb k hk h
theorem Pre.hdA (P:Pre κ a b) (m:MHa κ a b o i j) (hi:i = 0):Rm κ a b (a.extract 0 i ++ b.extract 0 j ++ o.reverse):=by
 unfold Rm
 rw [Array.toList_append,Array.toList_append,Array.toList_reverse,ext_beg,ext_beg]
 refine m.endA P.sa P.sb fun y hy z _=>?_
 rw [hi,List.take_zero] at hy
 exact absurd hy (by simp)
theorem Pre.hdB (P:Pre κ a b) (m:MHa κ a b o i j) (hj:j = 0):Rm κ a b (a.extract 0 i ++ b.extract 0 j ++ o.reverse):=by
 unfold Rm
 rw [Array.toList_append,Array.toList_append,Array.toList_reverse,ext_beg,ext_beg]
 refine m.endA P.sa P.sb fun y _ z hz=>?_
 rw [hj,List.take_zero] at hz
 exact absurd hz (by simp)
theorem Pre.hfB (P:Pre κ a b) (m:MHa κ a b o i j) (hj:j = 1):Rm κ a b (b.extract 0 j ++ a.extract 0 i ++ o.reverse):=by
 unfold Rm
 rw [Array.toList_append,Array.toList_append,Array.toList_reverse,ext_beg,ext_beg]
 refine m.endB P.sa P.sb fun y hy z hz=>?_
 refine o1_3 (mem_t hy) fun t h1 _ e=>?_
 have e0:t = 0:=by lia
 rw [e0] at e
 exact P.first y (ar_get.mpr e) z (List.mem_of_mem_take hz)
end
structure HiP (κ:KeyKind) (a b:Array Keyed) (n:Nat) (o:Array Keyed) (i j:Nat):Prop where
 m:MHa κ a b o i j
 hi:1<=i
 hj:2<=j
 ia:i<=a.size
 jb:j<=b.size
 hn:n + i + j<=a.size + b.size
theorem HiP.putA {a b o o':Array Keyed} {n i j:Nat} (h:HiP κ a b n o i j) (m:MHa κ a b o' (i - 1) j) (e:i - 1 ≠ 0):HiP κ a b (n + 1) o' (i - 1) j:=by
 obtain ⟨_,h1,h2,h3,h4,h5⟩:=h
 exact ⟨m,by lia,h2,by lia,h4,by lia⟩
theorem HiP.putB {a b o o':Array Keyed} {n i j:Nat} (h:HiP κ a b n o i j) (m:MHa κ a b o' i (j - 1)) (e:j - 1 ≠ 1):HiP κ a b (n + 1) o' i (j - 1):=by
 obtain ⟨_,h1,h2,h3,h4,h5⟩:=h
 exact ⟨m,h1,by lia,h3,by lia,by lia⟩
theorem HiP.mono {a b o:Array Keyed} {n n' i j:Nat} (h:HiP κ a b n o i j) (l:n'<=n):HiP κ a b n' o i j:=⟨h.m,h.hi,h.hj,h.ia,h.jb,Nat.le_trans (Nat.add_le_add_right (Nat.add_le_add_right l _) _) h.hn⟩
theorem HiP.la {a b o:Array Keyed} {n i j:Nat} (h:HiP κ a b n o i j):i - 1 < a.size:=Nat.lt_of_lt_of_le (Nat.sub_lt h.hi (Nat.zero_lt_one)) h.ia
theorem HiP.lb {a b o:Array Keyed} {n i j:Nat} (h:HiP κ a b n o i j):j - 1 < b.size:=Nat.lt_of_lt_of_le (Nat.sub_lt (Nat.lt_of_succ_lt h.hj) (Nat.zero_lt_one)) h.jb
theorem HiP.hj1 {a b o:Array Keyed} {n i j:Nat} (h:HiP κ a b n o i j):1<=j:=Nat.le_of_succ_le h.hj
noncomputable def HiI1 (κ:KeyKind) (a b:Array Keyed) (st:SortSt) (n:Nat) (c:Option (Array Keyed) × Nat × Nat × Array Keyed × Nat) (st':SortSt):Prop:=Sm st st'/\∃ i j o mg,c = (none,i,j,o,mg)/\HiP κ a b n o i j
noncomputable def HiI2 (κ:KeyKind) (a b:Array Keyed) (st:SortSt) (n:Nat) (c:Option (Array Keyed) × Nat × Nat × Array Keyed × Nat × Nat) (st':SortSt):Prop:=Sm st st'/\∃ i j o ac bc,c = (none,i,j,o,ac,bc)/\HiP κ a b n o i j
noncomputable def HiI3 (κ:KeyKind) (a b:Array Keyed) (st:SortSt) (n:Nat) (c:Option (Array Keyed) × Nat × Nat × Array Keyed × Nat × Nat × Nat) (st':SortSt):Prop:=Sm st st'/\∃ i j o mg ac bc,c = (none,i,j,o,mg,ac,bc)/\HiP κ a b n o i j
theorem HiI2.mk {a b o:Array Keyed} {st st':SortSt} {n i j ac bc:Nat} (sm:Sm st st') (h:HiP κ a b n o i j):HiI2 κ a b st n (none,i,j,o,ac,bc) st':=⟨sm,_,_,_,_,_,rfl,h⟩
theorem HiI3.mk {a b o:Array Keyed} {st st':SortSt} {n i j mg ac bc:Nat} (sm:Sm st st') (h:HiP κ a b n o i j):HiI3 κ a b st n (none,i,j,o,mg,ac,bc) st':=⟨sm,_,_,_,_,_,_,rfl,h⟩
theorem HiI1.elim {a b:Array Keyed} {st st':SortSt} {n:Nat} {c:Option (Array Keyed) × Nat × Nat × Array Keyed × Nat} {m:Option (Array Keyed) × Nat × Nat × Array Keyed × Nat->Prop} (h:HiI1 κ a b st n c st') (k:∀ i j o mg,Sm st st'->HiP κ a b n o i j->m (none,i,j,o,mg)):m c:=by
 obtain ⟨sm,i,j,o,mg,zq1,p⟩:=h
 subst zq1
 exact k i j o mg sm p
theorem HiI2.elim {a b:Array Keyed} {st st':SortSt} {n:Nat} {c:Option (Array Keyed) × Nat × Nat × Array Keyed × Nat × Nat} {m:Option (Array Keyed) × Nat × Nat × Array Keyed × Nat × Nat->Prop} (h:HiI2 κ a b st n c st') (k:∀ i j o ac bc,Sm st st'->HiP κ a b n o i j->m (none,i,j,o,ac,bc)):m c:=by
 obtain ⟨sm,i,j,o,ac,bc,zq2,p⟩:=h
 subst zq2
 exact k i j o ac bc sm p
theorem HiI3.elim {a b:Array Keyed} {st st':SortSt} {n:Nat} {c:Option (Array Keyed) × Nat × Nat × Array Keyed × Nat × Nat × Nat} {m:Option (Array Keyed) × Nat × Nat × Array Keyed × Nat × Nat × Nat->Prop} (h:HiI3 κ a b st n c st') (k:∀ i j o mg ac bc,Sm st st'->HiP κ a b n o i j->m (none,i,j,o,mg,ac,bc)):m c:=by
 obtain ⟨sm,i,j,o,mg,ac,bc,zq3,p⟩:=h
 subst zq3
 exact k i j o mg ac bc sm p
theorem wpS_mergeHi (C:Cmp prog w A s κ kd) {st:SortSt} {a b:Array Keyed} {Q:Array Keyed->SortSt->Prop} (hk:kindOf st = kd) (P:Pre κ a b)
  (h:∀ r st',Sm st st'->Rm κ a b r->Q r st'):wpS (model prog w) A E s (mergeHi' a b) Q st:=by
 rw [mergeHi'_eq]
 have hna:=P.na
 have hnb:=P.nb
 have hb0:=ar_get! (a:=a) (Nat.sub_lt hna Nat.zero_lt_one)
 generalize a[a.size - 1]'(Nat.sub_lt hna Nat.zero_lt_one) = b0 at hb0
 have m0:MHa κ a b (#[]:Array Keyed) a.size b.size:=⟨by simp,List.Pairwise.nil,fun x hx=>absurd hx (by simp),fun x hx=>absurd hx (by simp)⟩
 have m1:MHa κ a b (#[b0]:Array Keyed) (a.size - 1) b.size:=by
  have:=P.hpA m0 hna hb0 (fun z hz=>P.last b0 hb0 z (List.mem_of_mem_take hz))
  simpa using this
 apply wpS_out (x0:=b0) (fun R z=>wpS_lift (wpAny_rule ⟨rfl,z⟩)) (fun R z=>wpS_elem hb0 z)
 case h1=>exact fun ha1=>wpS_pure (h _ _ (Sm.refl _) (P.hdA m1 (eq_of_beq ha1)))
 case h2=>exact fun _ hb1=>wpS_pure (h _ _ (Sm.refl _) (P.hfB m1 (eq_of_beq hb1)))
 intro ha1 hb1
 have ha1:¬ a.size - 1 = 0:=fun z=>ha1 (beq_iff_eq.mpr z)
 have hb1:¬ b.size = 1:=fun z=>hb1 (beq_iff_eq.mpr z)
 have p1:HiP κ a b 1 #[b0] (a.size - 1) b.size:=⟨m1,by lia,by lia,by lia,by lia,by lia⟩
 refine wpS_mono (wpS_forRange (I:=fun x=>HiI1 κ a b st (x + 1)) (Q:=MR κ a b st) ?st ?en ⟨Sm.refl _,_,_,_,_,rfl,p1⟩) ?po
 case po =>
  intro c st' z
  apply z.elim
  intro r d sm hr
  exact wpS_pure (h r st' sm hr)
 case en =>
  intro c st' zq4
  obtain ⟨sm,i,j,o,mg,zq5,p⟩:=zq4
  subst zq5
  obtain ⟨_,h1,h2,_,_,h3⟩:=p
  exfalso
  lia
 case st =>
  intro x c st' _ hx hI
  apply hI.elim
  intro i j o mg sm p
  refine wpS_bind (wpS_mono (wpS_forRange (I:=fun _=>HiI2 κ a b st (x + 1)) (Q:=fun c st'=>MR κ a b st c st'\/HiI2 κ a b st (x + 1) c st') ?st1 ?en1 (HiI2.mk sm p)) ?po1)
  case en1=>exact fun c st2 z=>.inr z
  case st1 =>
   intro x2 c st2 _ _ hI
   apply hI.elim
   intro i' j' o ac bc sm2 p2
   have hbj:=ar_get! (a:=b) p2.lb
   have hai:=ar_get! (a:=a) p2.la
   generalize b[j' - 1]'p2.lb = bj at hbj
   generalize a[i' - 1]'p2.la = ai at hai
   refine wpS_bind (wpS_elem hbj (wpS_bind (wpS_elem hai (wpS_bind (wpS_lt C (sm2.knd hk) (P.kb _ _ hbj) (P.ka _ _ hai) ?_)))))
   refine wpS_if (fun hlt=>wpS_bind (wpS_elem hai ?_)) fun hlt=>wpS_bind (wpS_elem hbj ?_)
   ·have m3:=P.hpA p2.m p2.hi hai fun z hz=>le_trans (last_le P.sb (ar_get.mp hbj) z hz) (KeyOrd.kle_of_klt hlt)
    refine wpS_ifN (fun e1=>wpS_pure (.inl (MR.mk sm2 (P.hdA m3 e1)))) fun e1=>?_
    have p3:=(p2.putA m3 e1).mono (Nat.le_succ _)
    exact wpS_if (fun _=>wpS_pure (.inr (HiI2.mk sm2 p3))) fun _=>wpS_pure (HiI2.mk sm2 p3)
   ·have m3:=P.hpB p2.m p2.hj1 hbj fun z hz=>le_trans (last_le P.sa (ar_get.mp hai) z hz) (show le κ ai bj from Bool.eq_false_iff.mpr hlt)
    refine wpS_ifN (fun e1=>wpS_pure (.inl (MR.mk sm2 (P.hfB m3 e1)))) fun e1=>?_
    have p3:=(p2.putB m3 e1).mono (Nat.le_succ _)
    exact wpS_if (fun _=>wpS_pure (.inr (HiI2.mk sm2 p3))) fun _=>wpS_pure (HiI2.mk sm2 p3)
  case po1 =>
   intro c st2 z
   rcases z with z | z
   ·apply z.elim
    intro r d sm2 hr
    exact wpS_pure (MR.mk sm2 hr)
   ·apply z.elim
    intro i2 j2 o2 ac bc sm2 p2
    refine wpS_bind (wpS_lift (wpAny_rule ⟨rfl,?_⟩))
    refine wpS_bind (wpS_mono (wpS_forRange (I:=fun x3=>HiI3 κ a b st (x + 1 + x3)) (Q:=fun c st'=>MR κ a b st c st'\/HiI3 κ a b st (x + 1 + 1) c st') ?st2 ?en2 (HiI3.mk sm2 p2)) ?po2)
    case en2 =>
     intro c st3 zq6
     obtain ⟨sm3,i',j',o',mg',ac,bc,zq7,p3⟩:=zq6
     subst zq7
     exact .inr (HiI3.mk sm3 (p3.mono (by lia)))
    case po2 =>
     intro c st3 z
     rcases z with z | z
     ·apply z.elim
      intro r d sm3 hr
      exact wpS_pure (MR.mk sm3 hr)
     ·apply z.elim
      intro i' j' o' mg' ac bc sm3 p3
      refine wpS_bind (wpS_setMin sm3 fun st4 sm4=>?_)
      exact wpS_pure ⟨sm4,_,_,_,_,rfl,p3⟩
    case st2 =>
     intro x3 c st3 _ _ hI
     apply hI.elim
     intro i3 j3 o3 mg3 ac3 bc3 sm3 p3
     have hbj:=ar_get! (a:=b) p3.lb
     generalize b[j3 - 1]'p3.lb = bj at hbj
     apply wpS_jp1 (mg3 - 1) (y:=mg3)
     case e=>exact rfl
     intro g
     refine wpS_bind (wpS_setMin sm3 fun st4 sm4=>?_)
     refine wpS_bind (wpS_elem hbj (wpS_bind (wpS_gal C (sm4.knd hk) (P.kb _ _ hbj) (by rw [Nat.zero_add]; exact p3.ia) P.ka (fun u v p q huv _ e1 e2=>sor_le P.sa (Nat.add_le_add_left huv _) (ar_get.mp e1) (ar_get.mp e2)) (Nat.sub_lt p3.hi Nat.zero_lt_one) fun k hk1 k1 k2=>?_)))
     dsimp only
     have m4:MHa κ a b (o3 ++ (a.extract k i3).reverse) k j3:=P.heA p3.m hk1 fun y hy z hz=>by
      refine o1_3 (mem_td hy) fun t ht1 ht2 e=>?_
      exact le_trans (last_le P.sb (ar_get.mp hbj) z hz) (KeyOrd.kle_of_klt (PB_right' (k2 t y ht1 ht2 (by rw [Nat.zero_add]; exact ar_get.mpr e))))
     have hbz:∀ z ∈ a.toList.take k,le κ z bj:=fun z hz=>by
      refine o1_3 (mem_t hz) fun t ht _ e=>?_
      exact PB_right (k1 t z ht (by rw [Nat.zero_add]; exact ar_get.mpr e))
     generalize hd:i3 - k = d
     apply wpS_jp2 (o:=o3) (i:=i3) (fun o i=>HiP κ a b (x + 1 + x3) o i j3/\∀ z ∈ a.toList.take i,le κ z bj)
     ·intro o4 i4 zq8
      refine o0_2 zq8 fun p4 hbz=>?_
      refine wpS_bind (wpS_elem hbj ?_)
      have m5:=P.hpB p4.m p4.hj1 hbj hbz
      refine wpS_ifN (fun e3=>wpS_pure (.inl (MR.mk sm4 (P.hfB m5 e3)))) fun e3=>?_
      have p5:=p4.putB m5 e3
      generalize o4.push bj = o5 at m5 p5 ⊢
      generalize j3 - 1 = j5 at m5 p5 ⊢
      have hai:=ar_get! (a:=a) p5.la
      generalize a[i4 - 1]'p5.la = ai at hai
      refine wpS_bind (wpS_elem hai (wpS_bind (wpS_gal C (sm4.knd hk) (P.ka _ _ hai) (by rw [Nat.zero_add]; exact p5.jb) P.kb (fun u v p q huv _ e1 e2=>sor_le P.sb (Nat.add_le_add_left huv _) (ar_get.mp e1) (ar_get.mp e2)) (Nat.sub_lt p5.hj1 Nat.zero_lt_one) fun k' hk1' k1' k2'=>?_)))
      dsimp only
      have haz:∀ z ∈ b.toList.take k',le κ z ai:=fun z hz=>by
       refine o1_3 (mem_t hz) fun t ht _ e=>?_
       exact KeyOrd.kle_of_klt (PB_left (k1' t z ht (by rw [Nat.zero_add]; exact ar_get.mpr e)))
      generalize hd':j5 - k' = d'
      apply wpS_jp2 (o:=o5) (i:=j5) (fun o j=>HiP κ a b (x + 1 + x3 + 1) o i4 j/\∀ z ∈ b.toList.take j,le κ z ai)
      ·intro o6 j6 zq9
       refine o0_2 zq9 fun p6 haz=>?_
       refine wpS_bind (wpS_elem hai ?_)
       have m7:=P.hpA p6.m p6.hi hai haz
       refine wpS_ifN (fun e5=>wpS_pure (.inl (MR.mk sm4 (P.hdA m7 e5)))) fun e5=>?_
       have p7:=p6.putA m7 e5
       exact wpS_if (fun _=>wpS_pure (.inr (HiI3.mk sm4 (p7.mono (by lia))))) fun _=>wpS_pure (HiI3.mk sm4 (p7.mono (by lia)))
      ·intro hF hk0
       have m6:MHa κ a b (o5 ++ (b.extract k' j5).reverse) i4 k':=P.heB m5 hk1' fun y hy z hz=>by
        refine o1_3 (mem_td hy) fun t ht1 ht2 e=>?_
        exact le_trans (last_le P.sa (ar_get.mp hai) z hz) (PB_left' (k2' t y ht1 ht2 (by rw [Nat.zero_add]; exact ar_get.mpr e)))
       obtain ⟨_,h1,h2,h3,h4,h5⟩:=p5
       exact wpS_ifN (fun e4=>wpS_pure (.inl (MR.mk sm4 (P.hfB m6 e4)))) fun e4=>wpS_ifN (fun e5=>wpS_pure (.inl (MR.mk sm4 (P.hdB m6 e5)))) fun e5=>hF _ _ ⟨⟨m6,h1,by lia,h3,Nat.le_trans hk1' h4,by lia⟩,haz⟩
      ·intro hk0
       have z0:k' = j5:=Nat.le_antisymm hk1' (Nat.le_of_sub_eq_zero (hd'.trans (Nat.eq_zero_of_not_pos hk0)))
       subst z0
       exact ⟨p5,haz⟩
     ·intro hF hk0
      obtain ⟨_,h1,h2,h3,h4,h5⟩:=p3
      exact wpS_ifN (fun e1=>wpS_pure (.inl (MR.mk sm4 (P.hdA m4 e1)))) fun e1=>hF _ _ ⟨⟨m4,by lia,h2,Nat.le_trans hk1 h3,h4,by lia⟩,hbz⟩
     ·intro hk0
      have z0:k = i3:=Nat.le_antisymm hk1 (Nat.le_of_sub_eq_zero (hd.trans (Nat.eq_zero_of_not_pos hk0)))
      subst z0
      exact ⟨p3,hbz⟩
end
end TS
namespace TS
open PySem PyProof.Rows
section
variable {prog:Program} {w:World} {A:Around} {E:Value->Shared->Prop} {s:Shared} {κ:KeyKind} {kd:SortKind}
noncomputable def seg (l:List Keyed) (lo n:Nat):List Keyed:=(l.drop lo).take n
theorem foldl_set (m:List Keyed) (lo:Nat):∀ (n:Nat) (a:Array Keyed),lo + n + m.length<=a.size ->
  ((m.zipIdx n).foldl (fun a (x:Keyed × Nat)=>a.setIfInBounds (lo + x.2) x.1) a).size = a.size /\
  ∀ t:Nat,((m.zipIdx n).foldl (fun a (x:Keyed × Nat)=>a.setIfInBounds (lo + x.2) x.1) a)[t]? = if lo + n<=t/\t < lo + n + m.length then m[t - (lo + n)]? else a[t]?:=by
 induction m with
 | nil =>
  intro n a h
  refine ⟨rfl,fun t=>?_⟩
  rw [if_neg (by simp only [List.length_nil]; lia)]
  rfl
 | cons p m ih =>
  intro n a h
  rw [List.length_cons] at h
  rw [List.zipIdx_cons,List.foldl_cons]
  obtain ⟨i1,i2⟩:=ih (n + 1) (a.setIfInBounds (lo + n) p) (by rw [Array.size_setIfInBounds]; lia)
  refine ⟨i1.trans Array.size_setIfInBounds,fun t=>?_⟩
  rw [i2 t,List.length_cons]
  by_cases h1:lo + n = t
  ·subst h1
   rw [if_neg (by lia),if_pos (by lia),Array.getElem?_setIfInBounds_self_of_lt (by lia),Nat.sub_self]
   rfl
  ·by_cases h2:lo + (n + 1)<=t/\t < lo + (n + 1) + m.length
   ·rw [if_pos h2,if_pos (by lia),show t - (lo + n) = (t - (lo + (n + 1))) + 1 by lia,List.getElem?_cons_succ]
   ·rw [if_neg h2,if_neg (by lia),Array.getElem?_setIfInBounds_ne h1]
theorem foldl_set_list (m:List Keyed) (lo:Nat) (a:Array Keyed) (h:lo + m.length<=a.size) :
  (m.zipIdx.foldl (fun a (x:Keyed × Nat)=>a.setIfInBounds (lo + x.2) x.1) a).toList = a.toList.take lo ++ m ++ a.toList.drop (lo + m.length):=by
 refine o0_2 (foldl_set m lo 0 a (by lia)) fun h1 h2=>?_
 refine List.ext_getElem? fun t=>?_
 rw [Array.getElem?_toList,h2 t]
 have hl:(a.toList.take lo).length = lo:=by rw [List.length_take,Array.length_toList]; lia
 by_cases c1:t < lo
 ·rw [if_neg (by lia),List.append_assoc,List.getElem?_append_left (by lia),List.getElem?_take_of_lt c1,Array.getElem?_toList]
 ·by_cases c2:t < lo + m.length
  ·rw [if_pos (by lia),List.getElem?_append_left (by rw [List.length_append]; lia),List.getElem?_append_right (by lia),hl]
   rfl
  ·rw [if_neg (by lia),List.getElem?_append_right (by rw [List.length_append]; lia),List.length_append,hl,List.getElem?_drop,Array.getElem?_toList]
   congr 1
   lia
theorem seg_split (l:List Keyed) (lo n:Nat):l = l.take lo ++ seg l lo n ++ l.drop (lo + n):=by
 unfold seg
 rw [List.append_assoc,<-List.drop_drop,List.take_append_drop,List.take_append_drop]
theorem seg_add (l:List Keyed) (lo n m:Nat):seg l lo (n + m) = seg l lo n ++ seg l (lo + n) m:=by
 unfold seg
 rw [List.take_add,List.drop_drop]
structure Part (κ:KeyKind) (l l':List Keyed) (lo n:Nat):Prop where
 perm:l'.Perm l
 front:l'.take lo = l.take lo
 back:l'.drop (lo + n) = l.drop (lo + n)
theorem Part.refl (l:List Keyed) (lo n:Nat):Part κ l l lo n:=⟨List.Perm.refl _,rfl,rfl⟩
theorem Part.seg_front {l l':List Keyed} {lo n:Nat} (h:Part κ l l' lo n) {u m:Nat} (hu:u + m<=lo):seg l' u m = seg l u m:=by
 have:∀ x:List Keyed,seg x u m = ((x.take lo).drop u).take m:=fun x=>by
  unfold seg
  rw [List.drop_take,List.take_take,Nat.min_eq_left (by lia)]
 rw [this,this,h.front]
theorem Part.seg_back {l l':List Keyed} {lo n:Nat} (h:Part κ l l' lo n) {u m:Nat} (hu:lo + n<=u):seg l' u m = seg l u m:=by
 have:∀ x:List Keyed,seg x u m = ((x.drop (lo + n)).drop (u - (lo + n))).take m:=fun x=>by
  unfold seg
  rw [List.drop_drop,show lo + n + (u - (lo + n)) = u by lia]
 rw [this,this,h.back]
theorem Part.of {l z:List Keyed} {lo n:Nat} (hz:z.Perm (seg l lo n)) (hl:lo + n<=l.length):Part κ l (l.take lo ++ z ++ l.drop (lo + n)) lo n/\seg (l.take lo ++ z ++ l.drop (lo + n)) lo n = z:=by
 have h1:(l.take lo).length = lo:=by rw [List.length_take]; lia
 have h2:z.length = n:=by
  rw [hz.length_eq]
  unfold seg
  rw [List.length_take,List.length_drop]
  lia
 refine ⟨⟨?_,?_,?_⟩,?_⟩
 ·conv=>rhs; rw [seg_split l lo n]
  exact List.Perm.append_right _ (List.Perm.append_left _ hz)
 ·rw [List.append_assoc,List.take_append_of_le_length (by lia),List.take_of_length_le (by lia)]
 ·rw [List.drop_append,List.drop_eq_nil_of_le (by rw [List.length_append]; lia),List.nil_append,List.length_append,h1,h2,Nat.sub_self,List.drop_zero]
 ·unfold seg
  rw [List.append_assoc,List.drop_append,List.drop_eq_nil_of_le (by lia),List.nil_append,h1,Nat.sub_self,List.drop_zero,List.take_append_of_le_length (by lia),List.take_of_length_le (by lia)]
structure St (κ:KeyKind) (kd:SortKind) (a₀:Array Keyed) (st:SortSt):Prop where
 perm:(arrOf st).toList.Perm a₀.toList
 kind:kindOf st = kd
 failed:failedOf st = none
theorem St.size {a₀:Array Keyed} {st:SortSt} (h:St κ kd a₀ st):(arrOf st).size = a₀.size:=by
 have:=h.perm.length_eq
 simpa using this
theorem St.has {a₀:Array Keyed} {st:SortSt} (h:St κ kd a₀ st) (h0:KeysOf κ a₀) (i:Nat) (p:Keyed) (e:(arrOf st)[i]? = some p):Has κ p :=
 h0 p (h.perm.mem_iff.mp (List.mem_of_getElem? (ar_get.mp e)))
theorem seg_get {l:List Keyed} {lo n t:Nat} (ht:t < n):(seg l lo n)[t]? = l[lo + t]?:=by
 unfold seg
 rw [List.getElem?_take_of_lt ht,List.getElem?_drop]
theorem mergeAt'_eq (i:Nat):mergeAt' i = (do
  let u <-get
  let (some (sa,na,pw),some (sb,nb,_)):=((pendingOf u)[i]?,(pendingOf u)[i + 1]?) | unsupported "internal:list.sort.pending"
  set (setPending u (((pendingOf u).setIfInBounds i (sa,na + nb,pw)).eraseIdxIfInBounds (i + 1)))
  let some k <-gallop' false (<-elem' (arrOf u) sb) (arrOf u) sa na 0 | return false
  let (sa,na):=(sa + k,na - k)
  if na == 0 then return true
  let some nb <-gallop' true (<-elem' (arrOf u) (sa + na - 1)) (arrOf u) sb nb (nb - 1) | return false
  if nb == 0 then return true
  let x:=(arrOf u).extract sa sb
  let y:=(arrOf u).extract sb (sb + nb)
  let mm <-if na<=nb then mergeLo' x y else mergeHi' x y
  modify fun v=>setArr v (mm.toList.zipIdx.foldl (fun a (z:Keyed × Nat)=>a.setIfInBounds (sa + z.2) z.1) (arrOf v))
  return (failedOf (<-get)).isNone):=rfl
theorem wpS_set {st st2:SortSt} {Q:PUnit->SortSt->Prop} (h:Q ⟨⟩ st2):wpS (model prog w) A E s (set st2:StateT SortSt Sem PUnit) Q st:=by
 unfold wpS; rw [StateT.run_set]; exact wpAny_pure ⟨rfl,h⟩
theorem wpS_mergeAt (C:Cmp prog w A s κ kd) {a₀:Array Keyed} (h0:KeysOf κ a₀) {st:SortSt} {i sa na pw sb nb pw2:Nat} {Q:Bool->SortSt->Prop} (hS:St κ kd a₀ st)
  (hi:(pendingOf st)[i]? = some (sa,na,pw)) (hj:(pendingOf st)[i + 1]? = some (sb,nb,pw2)) (hsb:sb = sa + na) (hsz:sb + nb<=a₀.size) (hna:1<=na) (hnb:1<=nb)
  (sx:Sor κ (seg (arrOf st).toList sa na)) (sy:Sor κ (seg (arrOf st).toList sb nb))
  (h:∀ st',St κ kd a₀ st'->Part κ (arrOf st).toList (arrOf st').toList sa (na + nb)->Sor κ (seg (arrOf st').toList sa (na + nb)) ->
   pendingOf st' = ((pendingOf st).setIfInBounds i (sa,na + nb,pw)).eraseIdxIfInBounds (i + 1)->Q true st'):wpS (model prog w) A E s (mergeAt' i) Q st:=by
 subst hsb
 have hL:(arrOf st).toList.length = a₀.size:=by rw [Array.length_toList]; exact hS.size
 have hsz':=hS.size
 have hab1:sa + na<=(arrOf st).size:=by rw [hsz']; exact Nat.le_trans (Nat.le_add_right _ _) hsz
 have lx:(seg (arrOf st).toList sa na).length = na:=by
  unfold seg
  rw [List.length_take,List.length_drop,hL]
  exact Nat.min_eq_left (by lia)
 have ly:(seg (arrOf st).toList (sa + na) nb).length = nb:=by
  unfold seg
  rw [List.length_take,List.length_drop,hL]
  exact Nat.min_eq_left (by lia)
 rw [mergeAt'_eq]
 refine wpS_bind (wpS_get ?_)
 rw [hi,hj]
 dsimp only
 refine wpS_bind (wpS_set ?_)
 obtain ⟨b0,hb0⟩:=ar_at (a:=arrOf st) (i:=sa + na) (by lia)
 have sxl:∀ u v p q,u<=v->v < na->(arrOf st)[sa + u]? = some p->(arrOf st)[sa + v]? = some q->le κ p q:=fun u v p q huv hv e1 e2 =>
  sor_le sx huv (by rw [seg_get (by lia)]; exact ar_get.mp e1) (by rw [seg_get hv]; exact ar_get.mp e2)
 have syl:∀ u v p q,u<=v->v < nb->(arrOf st)[sa + na + u]? = some p->(arrOf st)[sa + na + v]? = some q->le κ p q:=fun u v p q huv hv e1 e2 =>
  sor_le sy huv (by rw [seg_get (by lia)]; exact ar_get.mp e1) (by rw [seg_get hv]; exact ar_get.mp e2)
 refine wpS_bind (wpS_elem hb0 (wpS_bind (wpS_gal C hS.kind (hS.has h0 _ _ hb0) (by lia) (hS.has h0) sxl (by lia) fun k hk1 k1 k2=>?_)))
 dsimp only
 have b0y:∀ z ∈ seg (arrOf st).toList (sa + na) nb,le κ b0 z:=fun z hz=>by
  refine o1_2 (mem_dt hz) fun t ht e=>?_
  exact syl 0 t b0 z (by lia) ht hb0 (ar_get.mpr e)
 have xk:∀ x ∈ (seg (arrOf st).toList sa na).take k,le κ x b0:=fun x hx=>by
  refine o1_3 (mem_t hx) fun t ht ht2 e=>?_
  rw [lx] at ht2
  rw [seg_get ht2] at e
  exact PB_right (k1 t x ht (ar_get.mpr e))
 have kx:∀ x ∈ (seg (arrOf st).toList sa na).drop k,le κ b0 x:=fun x hx=>by
  refine o1_2 (mem_d hx) fun t ht e=>?_
  rw [lx] at ht
  rw [seg_get ht] at e
  exact KeyOrd.kle_of_klt (PB_right' (k2 (k + t) x (Nat.le_add_right _ _) ht (ar_get.mpr e)))
 have S1:St κ kd a₀ (setPending st (((pendingOf st).setIfInBounds i (sa,na + nb,pw)).eraseIdxIfInBounds (i + 1))):=⟨hS.perm,hS.kind,hS.failed⟩
 refine wpS_ifN (fun hk0=>?_) (fun hk0=>?_)
 ·skip
  have hkk:k = na:=by lia
  refine wpS_pure (h _ S1 (Part.refl _ _ _) ?_ rfl)
  show Sor κ (seg (arrOf st).toList sa (na + nb))
  rw [seg_add]
  refine List.pairwise_append.mpr ⟨sx,sy,fun x hx y hy=>le_trans (xk x ?_) (b0y y hy)⟩
  rw [List.take_of_length_le (by rw [lx]; exact Nat.le_of_eq hkk.symm)]
  exact hx
 obtain ⟨al,hal⟩:=ar_at (a:=arrOf st) (i:=sa + k + (na - k) - 1) (by lia)
 refine wpS_bind (wpS_elem hal (wpS_bind (wpS_gal C S1.kind (hS.has h0 _ _ hal) (by lia) (hS.has h0) syl (by lia) fun k' hk1' k1' k2'=>?_)))
 dsimp only
 have hal':(arrOf st)[sa + (na - 1)]? = some al:=by rw [show sa + (na - 1) = sa + k + (na - k) - 1 by lia]; exact hal
 have xal:∀ x ∈ seg (arrOf st).toList sa na,le κ x al:=fun x hx=>by
  refine o1_2 (mem_dt hx) fun t ht e=>?_
  exact sxl t (na - 1) x al (by lia) (by lia) (ar_get.mpr e) hal'
 have yk:∀ y ∈ (seg (arrOf st).toList (sa + na) nb).take k',le κ y al:=fun y hy=>by
  refine o1_3 (mem_t hy) fun t ht ht2 e=>?_
  rw [ly] at ht2
  rw [seg_get ht2] at e
  exact KeyOrd.kle_of_klt (PB_left (k1' t y ht (ar_get.mpr e)))
 have ky:∀ y ∈ (seg (arrOf st).toList (sa + na) nb).drop k',le κ al y:=fun y hy=>by
  refine o1_2 (mem_d hy) fun t ht e=>?_
  rw [ly] at ht
  rw [seg_get ht] at e
  exact PB_left' (k2' (k' + t) y (Nat.le_add_right _ _) ht (ar_get.mpr e))
 refine wpS_ifN (fun hk0'=>?_) (fun hk0'=>?_)
 ·skip
  refine wpS_pure (h _ S1 (Part.refl _ _ _) ?_ rfl)
  show Sor κ (seg (arrOf st).toList sa (na + nb))
  rw [seg_add]
  refine List.pairwise_append.mpr ⟨sx,sy,fun x hx y hy=>le_trans (xal x hx) (ky y ?_)⟩
  rw [hk0',List.drop_zero]
  exact hy
 have ex:((arrOf st).extract (sa + k) (sa + na)).toList = (seg (arrOf st).toList sa na).drop k:=by
  rw [ext_mid]
  unfold seg
  rw [List.drop_take,List.drop_take,List.drop_drop]
  congr 1
  lia
 have ey:((arrOf st).extract (sa + na) (sa + na + k')).toList = (seg (arrOf st).toList (sa + na) nb).take k':=by
  rw [ext_list]
  unfold seg
  rw [List.take_take,Nat.min_eq_left hk1']
 have P:Pre κ ((arrOf st).extract (sa + k) (sa + na)) ((arrOf st).extract (sa + na) (sa + na + k')):=by
  refine ⟨by rw [ex]; exact sx.sublist (List.drop_sublist _ _),by rw [ey]; exact sy.sublist (List.take_sublist _ _),fun t p e=>?_,fun t p e=>?_,?_,?_,fun q e z hz=>?_,fun p e z hz=>?_⟩
  ·have m:=List.mem_of_getElem? (ar_get.mp e)
   rw [ex] at m
   refine o1_2 (mem_dt (List.mem_of_mem_drop m)) fun u _ e2=>?_
   exact hS.has h0 _ p (ar_get.mpr e2)
  ·have m:=List.mem_of_getElem? (ar_get.mp e)
   rw [ey] at m
   refine o1_2 (mem_dt (List.mem_of_mem_take m)) fun u _ e2=>?_
   exact hS.has h0 _ p (ar_get.mpr e2)
  ·rw [Array.size_extract,Nat.min_eq_left hab1]; lia
  ·rw [Array.size_extract,Nat.min_eq_left (by lia)]; lia
  ·have m:=ar_get.mp e
   rw [ey,List.getElem?_take_of_lt (Nat.pos_of_ne_zero hk0'),seg_get hnb] at m
   have:q = b0:=by
    have:=ar_get.mp hb0
    rw [Nat.add_zero,this] at m
    exact (Option.some.inj m).symm
   subst this
   rw [ex] at hz
   exact kx z hz
  ·have m:=ar_get.mp e
   rw [ex,Array.size_extract,Nat.min_eq_left hab1,List.getElem?_drop,show k + (sa + na - (sa + k) - 1) = na - 1 by lia,seg_get (Nat.sub_lt hna Nat.zero_lt_one)] at m
   have:p = al:=by
    have q:=ar_get.mp hal'
    rw [q] at m
    exact (Option.some.inj m).symm
   subst this
   rw [ey] at hz
   exact yk z hz
 have fin:∀ (r:Array Keyed) (st2:SortSt),Sm (setPending st (((pendingOf st).setIfInBounds i (sa,na + nb,pw)).eraseIdxIfInBounds (i + 1))) st2->Rm κ ((arrOf st).extract (sa + k) (sa + na)) ((arrOf st).extract (sa + na) (sa + na + k')) r ->
   Q (failedOf (setArr st2 (r.toList.zipIdx.foldl (fun a (z:Keyed × Nat)=>a.setIfInBounds (sa + k + z.2) z.1) (arrOf st2)))).isNone (setArr st2 (r.toList.zipIdx.foldl (fun a (z:Keyed × Nat)=>a.setIfInBounds (sa + k + z.2) z.1) (arrOf st2))):=by
  intro r st2 zq1 zq2
  refine o0_4 zq1 fun q1 q2 q3 q4=>?_
  refine o0_2 zq2 fun r1 r2=>?_
  rw [ex,ey] at r2
  have hrl:r.toList.length = (na - k) + k':=by
   rw [r2.length_eq,List.length_append,List.length_drop,List.length_take,lx,ly,Nat.min_eq_left hk1']
  have q2':arrOf st2 = arrOf st:=q2
  have ef:failedOf (setArr st2 (r.toList.zipIdx.foldl (fun a (z:Keyed × Nat)=>a.setIfInBounds (sa + k + z.2) z.1) (arrOf st2))) = none:=q4.trans hS.failed
  rw [ef]
  have el:=foldl_set_list r.toList (sa + k) (arrOf st2) (by rw [q2']; lia)
  have eq:(r.toList.zipIdx.foldl (fun a (z:Keyed × Nat)=>a.setIfInBounds (sa + k + z.2) z.1) (arrOf st2)).toList = (arrOf st).toList.take sa ++ ((seg (arrOf st).toList sa na).take k ++ r.toList ++ (seg (arrOf st).toList (sa + na) nb).drop k') ++ (arrOf st).toList.drop (sa + (na + nb)):=by
   rw [el,q2',hrl]
   have e1:(arrOf st).toList.take (sa + k) = (arrOf st).toList.take sa ++ (seg (arrOf st).toList sa na).take k:=by
    unfold seg
    rw [List.take_add,List.take_take,Nat.min_eq_left hk1]
   have e2:(arrOf st).toList.drop (sa + k + (na - k + k')) = (seg (arrOf st).toList (sa + na) nb).drop k' ++ (arrOf st).toList.drop (sa + (na + nb)):=by
    unfold seg
    rw [List.drop_take,List.drop_drop,show sa + k + (na - k + k') = sa + na + k' by lia]
    conv=>lhs; rw [<-List.take_append_drop (nb - k') ((arrOf st).toList.drop (sa + na + k'))]
    rw [List.drop_drop,show sa + na + k' + (nb - k') = sa + (na + nb) by lia]
   rw [e1,e2]
   simp only [List.append_assoc]
  have hp:((seg (arrOf st).toList sa na).take k ++ r.toList ++ (seg (arrOf st).toList (sa + na) nb).drop k').Perm (seg (arrOf st).toList sa (na + nb)):=by
   rw [seg_add]
   have a1:((seg (arrOf st).toList sa na).take k ++ r.toList ++ (seg (arrOf st).toList (sa + na) nb).drop k').Perm ((seg (arrOf st).toList sa na).take k ++ ((seg (arrOf st).toList sa na).drop k ++ (seg (arrOf st).toList (sa + na) nb).take k') ++ (seg (arrOf st).toList (sa + na) nb).drop k') :=
    List.Perm.append_right _ (List.Perm.append_left _ r2)
   refine a1.trans (List.Perm.of_eq ?_)
   rw [<-List.append_assoc,List.take_append_drop,List.append_assoc,List.take_append_drop]
  obtain ⟨pa,ps⟩:=Part.of (κ:=κ) hp (by rw [hL]; lia)
  have hs:Sor κ ((seg (arrOf st).toList sa na).take k ++ r.toList ++ (seg (arrOf st).toList (sa + na) nb).drop k'):=by
   refine List.pairwise_append.mpr ⟨List.pairwise_append.mpr ⟨sx.sublist (List.take_sublist _ _),r1,fun x hx y hy=>?_⟩,sy.sublist (List.drop_sublist _ _),fun x hx y hy=>?_⟩
   ·rcases List.mem_append.mp (r2.mem_iff.mp hy) with hy | hy
    ·exact le_trans (xk x hx) (kx y hy)
    ·exact le_trans (xk x hx) (b0y y (List.mem_of_mem_take hy))
   ·rcases List.mem_append.mp hx with hx | hx
    ·exact le_trans (xal x (List.mem_of_mem_take hx)) (ky y hy)
    ·rcases List.mem_append.mp (r2.mem_iff.mp hx) with hx | hx
     ·exact le_trans (xal x (List.mem_of_mem_drop hx)) (ky y hy)
     ·exact le_trans (yk x hx) (ky y hy)
  refine h _ ⟨?_,q1.trans hS.kind,q4.trans hS.failed⟩ ?_ ?_ q3
  ·show (r.toList.zipIdx.foldl (fun a (z:Keyed × Nat)=>a.setIfInBounds (sa + k + z.2) z.1) (arrOf st2)).toList.Perm a₀.toList
   rw [eq]
   exact pa.perm.trans hS.perm
  ·show Part κ (arrOf st).toList (r.toList.zipIdx.foldl (fun a (z:Keyed × Nat)=>a.setIfInBounds (sa + k + z.2) z.1) (arrOf st2)).toList sa (na + nb)
   rw [eq]
   exact pa
  ·show Sor κ (seg (r.toList.zipIdx.foldl (fun a (z:Keyed × Nat)=>a.setIfInBounds (sa + k + z.2) z.1) (arrOf st2)).toList sa (na + nb))
   rw [eq,ps]
   exact hs
 refine wpS_if (fun hab=>?_) (fun hab=>?_)
 ·skip
  refine wpS_bind (wpS_mergeLo C S1.kind P fun r st2 q r1=>?_)
  exact wpS_bind (wpS_modify (wpS_bind (wpS_get (wpS_pure (fin r st2 q r1)))))
 ·skip
  refine wpS_bind (wpS_mergeHi C S1.kind P fun r st2 q r1=>?_)
  exact wpS_bind (wpS_modify (wpS_bind (wpS_get (wpS_pure (fin r st2 q r1)))))
end
end TS
namespace TS
open PySem PyProof.Rows
section
variable {prog:Program} {w:World} {A:Around} {E:Value->Shared->Prop} {s:Shared} {κ:KeyKind} {kd:SortKind} {a₀:Array Keyed}
theorem KK_kk {xs:Array Keyed} {i:Nat} {p:Keyed} (h:xs[i]? = some p):KK κ xs i = kk κ p:=by unfold KK kk; rw [h]
noncomputable def SI (κ:KeyKind) (xs:Array Keyed) (lo m:Nat):Prop:=∀ i j,i<=j->j < m->κ.kle (KK κ xs (lo + i)) (KK κ xs (lo + j))
noncomputable def NI (κ:KeyKind) (xs:Array Keyed) (lo m:Nat):Prop:=∀ i j,i<=j->j < m->κ.kle (KK κ xs (lo + j)) (KK κ xs (lo + i))
theorem SI.sor {xs:Array Keyed} {lo m:Nat} (h:SI κ xs lo m):Sor κ (seg xs.toList lo m):=by
 refine List.pairwise_iff_getElem.mpr fun i j hi hj hij=>?_
 unfold seg at hi hj
 rw [List.length_take] at hi hj
 have e1:xs[lo + i]? = some (seg xs.toList lo m)[i]:=by
  rw [ar_get,<-seg_get (n:=m) (by lia)]
  exact List.getElem?_eq_getElem _
 have e2:xs[lo + j]? = some (seg xs.toList lo m)[j]:=by
  rw [ar_get,<-seg_get (n:=m) (by lia)]
  exact List.getElem?_eq_getElem _
 have:=h i j (by lia) (by lia)
 rw [KK_kk e1,KK_kk e2] at this
 exact this
structure Lo (κ:KeyKind) (kd:SortKind) (a₀:Array Keyed) (st0:SortSt) (lo n:Nat) (st:SortSt):Prop where
 S:St κ kd a₀ st
 pend:pendingOf st = pendingOf st0
 out:∀ t,t < lo\/lo + n<=t->(arrOf st)[t]? = (arrOf st0)[t]?
theorem Lo.part {st0 st:SortSt} {lo n:Nat} (h:Lo κ kd a₀ st0 lo n st) (h0:St κ kd a₀ st0):Part κ (arrOf st0).toList (arrOf st).toList lo n:=by
 refine ⟨h.S.perm.trans h0.perm.symm,List.ext_getElem? fun t=>?_,List.ext_getElem? fun t=>?_⟩
 ·by_cases ht:t < lo
  ·rw [List.getElem?_take_of_lt ht,List.getElem?_take_of_lt ht,Array.getElem?_toList,Array.getElem?_toList]
   exact h.out t (.inl ht)
  ·rw [List.getElem?_eq_none (by rw [List.length_take]; lia),List.getElem?_eq_none (by rw [List.length_take]; lia)]
 ·rw [List.getElem?_drop,List.getElem?_drop,Array.getElem?_toList,Array.getElem?_toList]
  exact h.out _ (.inr (by lia))
theorem Lo.mirror {st0 st:SortSt} {lo n i j:Nat} (h:Lo κ kd a₀ st0 lo n st) (hi:lo<=i) (hj:j<=lo + n) (hn:lo + n<=a₀.size):Lo κ kd a₀ st0 lo n (setArr st (mirror (arrOf st) i j ((j - i) / 2))):=by
 refine ⟨⟨(Array.perm_iff_toList_perm.mp (mirror_perm _ _ _ _)).trans h.S.perm,h.S.kind,h.S.failed⟩,h.pend,fun t ht=>?_⟩
 show (PyProof.Rows.mirror (arrOf st) i j ((j - i) / 2))[t]? = _
 have:=h.S.size
 rw [getElem?_mirror_all (by lia),if_neg (by lia)]
 exact h.out t ht
theorem wpS_ltI (C:Cmp prog w A s κ kd) (h0:KeysOf κ a₀) {st:SortSt} (hS:St κ kd a₀ st) {i j:Nat} {Q:Option Bool->SortSt->Prop} (hi:i < a₀.size) (hj:j < a₀.size)
  (h:Q (some (κ.blt (KK κ (arrOf st) i) (KK κ (arrOf st) j))) st):wpS (model prog w) A E s (ltAt' i j) Q st:=by
 have:=hS.size
 obtain ⟨p,hp⟩:=ar_at (a:=arrOf st) (i:=i) (by lia)
 obtain ⟨q,hq⟩:=ar_at (a:=arrOf st) (i:=j) (by lia)
 rw [ltAt'_eq]
 refine wpS_bind (wpS_get ?_)
 refine wpS_bind (wpS_elem hp (wpS_bind (wpS_elem hq (wpS_lt C hS.kind (hS.has h0 _ _ hp) (hS.has h0 _ _ hq) ?_))))
 rw [KK_kk hp,KK_kk hq] at h
 exact h
theorem ascL {st:SortSt} {lo a nrem:Nat} {f:Nat->(Option (Option Nat) × Nat)->StateT SortSt Sem (ForInStep (Option (Option Nat) × Nat))} {Q:(Option (Option Nat) × Nat)->SortSt->Prop}
  (hf:∀ x n,1<=n->n < nrem->wpS (model prog w) A E s (f x (none,n)) (fun r st'=>st' = st/\r = if κ.blt (KK κ (arrOf st) (lo + n)) (KK κ (arrOf st) (lo + n - 1)) = true then .done (none,n) else .yield (none,n + 1)) st)
  (ha:1<=a) (han:a<=nrem) (hs:SI κ (arrOf st) lo a)
  (h:∀ n,a<=n->n<=nrem->SI κ (arrOf st) lo n->(n = nrem\/κ.klt (KK κ (arrOf st) (lo + n)) (KK κ (arrOf st) (lo + n - 1)))->Q (none,n) st):wpS (model prog w) A E s (forIn [a:nrem] (none,a) f) Q st:=by
 refine wpS_forRange (I:=fun x c st'=>st' = st/\c = (none,x)/\SI κ (arrOf st) lo x) ?_ ?_ ⟨rfl,rfl,hs⟩
 ·intro x c st' hax hxn zq1
  refine o0_3 zq1 fun zq2 zq3 hs'=>?_
  subst zq2
  subst zq3
  refine wpS_mono (hf x x (by lia) hxn) fun r st2 ⟨e,er⟩=>?_
  subst e
  cases hless:κ.blt (KK κ (arrOf st2) (lo + x)) (KK κ (arrOf st2) (lo + x - 1))
  ·rw [hless,if_neg Bool.false_ne_true] at er
   subst er
   refine ⟨rfl,rfl,fun i j hij hj=>?_⟩
   by_cases hjx:j < x
   ·exact hs' i j hij hjx
   ·have hj':j = x:=by lia
    subst hj'
    by_cases hi':i = j
    ·subst hi'; exact KeyOrd.kle_refl _
    ·have:=hs' i (j - 1) (by lia) (by lia)
     rw [show lo + (j - 1) = lo + j - 1 by lia] at this
     exact KeyOrd.kle_trans this hless
  ·rw [hless,if_pos rfl] at er
   subst er
   exact h x hax (by lia) hs' (.inr hless)
 ·intro c st' zq4
  refine o0_3 zq4 fun zq5 zq6 hs'=>?_
  subst zq5
  subst zq6
  rw [show max a nrem = nrem by lia] at hs' ⊢
  exact h nrem han (Nat.le_refl _) hs' (.inl rfl)
theorem NI.step {xs ys:Array Keyed} {lo x:Nat} (hx:1<=x) (hk:∀ k,KK κ ys k = KK κ xs k) (hs:NI κ xs lo x) (hl:κ.kle (KK κ xs (lo + x)) (KK κ xs (lo + x - 1))):NI κ ys lo (x + 1):=by
 intro i j hij hj
 rw [hk,hk]
 by_cases hjx:j < x
 ·exact hs i j hij hjx
 ·have hj':j = x:=by lia
  subst hj'
  by_cases hi':i = j
  ·subst hi'; exact KeyOrd.kle_refl _
  ·have:=hs i (j - 1) (by lia) (by lia)
   rw [show lo + (j - 1) = lo + j - 1 by lia] at this
   exact KeyOrd.kle_trans hl this
noncomputable abbrev DS:=Option (Option Nat) × Nat × Nat
theorem descL {st0 st:SortSt} {lo n nrem:Nat} (hsz:lo + nrem<=a₀.size) {f:Nat->DS->StateT SortSt Sem (ForInStep DS)} {Q:DS->SortSt->Prop}
  (hf:∀ x n q st',1<=n->n < nrem->Lo κ kd a₀ st0 lo nrem st'->wpS (model prog w) A E s (f x (none,n,q)) (fun r st2 =>
   if κ.blt (KK κ (arrOf st') (lo + n)) (KK κ (arrOf st') (lo + n - 1)) = true then (st2 = if q > 0 then setArr st' (mirror (arrOf st') (lo + n - (q + 1)) (lo + n) ((lo + n - (lo + n - (q + 1))) / 2)) else st')/\r = .yield (none,n + 1,0)
   else st2 = st'/\r = if κ.blt (KK κ (arrOf st') (lo + n - 1)) (KK κ (arrOf st') (lo + n)) = true then .done (none,n,q) else .yield (none,n + 1,q + 1)) st')
  (h1:1<=n) (hnn:n<=nrem) (hB:Lo κ kd a₀ st0 lo nrem st) (hs:NI κ (arrOf st) lo n)
  (h:∀ m q st',Lo κ kd a₀ st0 lo nrem st'->n<=m->m<=nrem->NI κ (arrOf st') lo m->q + 1<=m->(∀ i,m - (q + 1)<=i->i < m->KK κ (arrOf st') (lo + i) = KK κ (arrOf st') (lo + m - 1))->Q (none,m,q) st') :
  wpS (model prog w) A E s (forIn [n:nrem] (none,n,0) f) Q st:=by
 refine wpS_forRange (I:=fun x c st'=>∃ q,c = (none,x,q)/\Lo κ kd a₀ st0 lo nrem st'/\NI κ (arrOf st') lo x/\q + 1<=x /\
   (∀ i,x - (q + 1)<=i->i < x->KK κ (arrOf st') (lo + i) = KK κ (arrOf st') (lo + x - 1))) ?_ ?_ ⟨0,rfl,hB,hs,by lia,fun i h1 h2=>by congr 1; lia⟩
 ·intro x c st' hax hxn zq7
  refine o1_5 zq7 fun q zq8 hB' hs' hq he=>?_
  subst zq8
  have hs0:=hB'.S.size
  refine wpS_mono (hf x x q st' (by lia) hxn hB') fun r st2 hr=>?_
  cases hless:κ.blt (KK κ (arrOf st') (lo + x)) (KK κ (arrOf st') (lo + x - 1))
  ·rw [hless,if_neg Bool.false_ne_true] at hr
   refine o0_2 hr fun e er=>?_
   try clear hr
   subst e
   cases hl:κ.blt (KK κ (arrOf st2) (lo + x - 1)) (KK κ (arrOf st2) (lo + x))
   ·rw [hl,if_neg Bool.false_ne_true] at er
    subst er
    have heqx:KK κ (arrOf st2) (lo + x) = KK κ (arrOf st2) (lo + x - 1):=KeyOrd.kle_antisymm hl hless
    refine ⟨q + 1,rfl,hB',NI.step (by lia) (fun _=>rfl) hs' hl,by lia,fun i g1 g2=>?_⟩
    rw [show lo + (x + 1) - 1 = lo + x by lia]
    by_cases hix:i = x
    ·subst hix; rfl
    ·rw [heqx]; exact he i (by lia) (by lia)
   ·rw [hl,if_pos rfl] at er
    subst er
    exact h x q st2 hB' hax (by lia) hs' hq he
  ·rw [hless,if_pos rfl] at hr
   refine o0_2 hr fun e er=>?_
   try clear hr
   subst er
   have hl:κ.kle (KK κ (arrOf st') (lo + x)) (KK κ (arrOf st') (lo + x - 1)):=KeyOrd.kle_of_klt hless
   by_cases hq0:q > 0
   ·rw [if_pos hq0] at e
    subst e
    refine ⟨0,rfl,hB'.mirror (by lia) (by lia) hsz,NI.step (by lia) (KK_mirror_equal (by lia) fun k g1 g2=>?_) hs' hl,by lia,fun i g1 g2=>by congr 1; lia⟩
    have:=he (k - lo) (by lia) (by lia)
    rw [show lo + (k - lo) = k by lia] at this
    exact this
   ·rw [if_neg hq0] at e
    subst e
    exact ⟨0,rfl,hB',NI.step (by lia) (fun _=>rfl) hs' hl,by lia,fun i g1 g2=>by congr 1; lia⟩
 ·intro c st' zq9
  refine o1_5 zq9 fun q zq10 hB' hs' hq he=>?_
  subst zq10
  rw [show max n nrem = nrem by lia] at hs' hq he ⊢
  exact h nrem q st' hB' hnn (Nat.le_refl _) hs' hq he
theorem NI.turn {xs:Array Keyed} {lo n:Nat} (hn:lo + n<=xs.size) (h:NI κ xs lo n):SI κ (mirror xs lo (lo + n) ((lo + n - lo) / 2)) lo n:=by
 intro i j hij hj
 rw [KK_mirror hn,KK_mirror hn,if_pos (by lia),if_pos (by lia)]
 have:=h (n - 1 - j) (n - 1 - i) (by lia) (by lia)
 rw [show lo + (n - 1 - i) = lo + (lo + n) - 1 - (lo + i) by lia,show lo + (n - 1 - j) = lo + (lo + n) - 1 - (lo + j) by lia] at this
 exact this
theorem wpS_countRun (C:Cmp prog w A s κ kd) (h0:KeysOf κ a₀) {st:SortSt} {lo nrem:Nat} {Q:Option Nat->SortSt->Prop} (hS:St κ kd a₀ st) (hsz:lo + nrem<=a₀.size) (h1:1<=nrem)
  (h:∀ m st',Lo κ kd a₀ st lo nrem st'->1<=m->m<=nrem->SI κ (arrOf st') lo m->Q (some m) st'):wpS (model prog w) A E s (countRun' lo nrem) Q st:=by
 have L0:Lo κ kd a₀ st lo nrem st:=⟨hS,rfl,fun _ _=>rfl⟩
 rw [countRun'_eq]
 refine wpS_bind (ascL (κ:=κ) (lo:=lo) (fun x n g1 g2=>?_) (Nat.le_refl 1) h1 (fun i j hij hj=>by have:i = j:=(by lia); subst this; exact KeyOrd.kle_refl _) fun n hn1 hn2 hsn hor=>?_)
 ·dsimp only
  refine wpS_bind (wpS_ltI C h0 hS (by lia) (by lia) ?_)
  cases κ.blt (KK κ (arrOf st) (lo + n)) (KK κ (arrOf st) (lo + n - 1))
  ·exact wpS_pure ⟨rfl,rfl⟩
  ·exact wpS_pure ⟨rfl,rfl⟩
 dsimp only
 refine wpS_ifN (fun hnn=>?_) (fun hnn=>?_)
 ·skip
  exact wpS_pure (h n st L0 hn1 hn2 hsn)
 have hlt:κ.klt (KK κ (arrOf st) (lo + n)) (KK κ (arrOf st) (lo + n - 1)):=hor.resolve_left hnn
 have hz:=hS.size
 refine wpS_if (fun hgt=>?_) (fun hgt=>?_)
 ·skip
  refine wpS_bind (wpS_ltI C h0 hS (by lia) (by lia) ?_)
  dsimp only
  cases hrose:κ.blt (KK κ (arrOf st) lo) (KK κ (arrOf st) (lo + n - 1)) with
  | true =>
   simp only [if_true]
   exact wpS_pure (h n st L0 hn1 hn2 hsn)
  | false =>
   simp only [Bool.false_eq_true,if_false]
   have hall:∀ k,lo<=k->k < lo + n->KK κ (arrOf st) k = KK κ (arrOf st) (lo + n - 1):=by
    intro k hk1 hk2
    have a1:=hsn 0 (k - lo) (by lia) (by lia)
    have a2:=hsn (k - lo) (n - 1) (by lia) (by lia)
    rw [Nat.add_zero,show lo + (k - lo) = k by lia] at a1
    rw [show lo + (k - lo) = k by lia,show lo + (n - 1) = lo + n - 1 by lia] at a2
    exact KeyOrd.kle_antisymm a2 (KeyOrd.kle_trans hrose a1)
   have hk:=KK_mirror_equal (κ:=κ) (xs:=arrOf st) (i:=lo) (j:=lo + n) (by lia) hall
   refine wpS_bind (wpS_reverse ?_)
   have hB2:=L0.mirror (i:=lo) (j:=lo + n) (by lia) (by lia) hsz
   have hN:NI κ (mirror (arrOf st) lo (lo + n) ((lo + n - lo) / 2)) lo (n + 1):=by
    refine NI.step (by lia) hk (fun i j hij hj=>?_) (KeyOrd.kle_of_klt hlt)
    rw [hall (lo + i) (by lia) (by lia),hall (lo + j) (by lia) (by lia)]
    exact KeyOrd.kle_refl _
   refine wpS_bind (wpS_lift (wpAny_rule ⟨rfl,?_⟩))
   refine wpS_bind (descL (κ:=κ) (kd:=kd) (a₀:=a₀) (st0:=st) (lo:=lo) hsz (fun x n' q st' g1 g2 hB'=>?_) (by lia) (by lia) hB2 hN fun m q st' hB3 hm1 hm2 hs3 hq he=>?_)
   ·dsimp only
    refine wpS_bind (wpS_ltI C h0 hB'.S (by lia) (by lia) ?_)
    cases κ.blt (KK κ (arrOf st') (lo + n')) (KK κ (arrOf st') (lo + n' - 1))
    ·simp only [Bool.false_eq_true,if_false]
     refine wpS_bind (wpS_ltI C h0 hB'.S (by lia) (by lia) ?_)
     cases κ.blt (KK κ (arrOf st') (lo + n' - 1)) (KK κ (arrOf st') (lo + n'))
     ·exact wpS_pure ⟨rfl,rfl⟩
     ·exact wpS_pure ⟨rfl,rfl⟩
    ·simp only [if_true]
     by_cases hq:q > 0
     ·rw [if_pos hq,if_pos hq]
      exact wpS_bind (wpS_reverse (wpS_pure ⟨rfl,rfl⟩))
     ·rw [if_neg hq,if_neg hq]
      exact wpS_pure ⟨rfl,rfl⟩
   ·dsimp only
    have hz3:=hB3.S.size
    refine wpS_if (fun hq0=>?_) (fun hq0=>?_)
    ·skip
     refine wpS_bind (wpS_reverse (wpS_bind (wpS_reverse ?_)))
     have hB4':=hB3.mirror (i:=lo + m - (q + 1)) (j:=lo + m) (by lia) (by lia) hsz
     have hB4:=hB4'.mirror (i:=lo) (j:=lo + m) (by lia) (by lia) hsz
     have hz4:=hB4'.S.size
     have hN4:NI κ (mirror (arrOf st') (lo + m - (q + 1)) (lo + m) ((lo + m - (lo + m - (q + 1))) / 2)) lo m:=by
      have hk:=KK_mirror_equal (κ:=κ) (xs:=arrOf st') (i:=lo + m - (q + 1)) (j:=lo + m) (by lia) (fun k g1 g2=>by
       have:=he (k - lo) (by lia) (by lia)
       rw [show lo + (k - lo) = k by lia] at this
       exact this)
      intro i j hij hj
      rw [hk,hk]
      exact hs3 i j hij hj
     have hT:=hN4.turn (κ:=κ) (lo:=lo) (n:=m) (by rw [mirror_size]; lia)
     refine wpS_bind (ascL (κ:=κ) (lo:=lo) (fun x n' g1 g2=>?_) (by lia) hm2 hT fun m' hm1' hm2' hsm _=>wpS_pure (h m' _ hB4 (by lia) hm2' hsm))
     dsimp only
     refine wpS_bind (wpS_ltI C h0 hB4.S (by lia) (by lia) ?_)
     cases κ.blt (KK κ _ (lo + n')) (KK κ _ (lo + n' - 1))
     ·exact wpS_pure ⟨rfl,rfl⟩
     ·exact wpS_pure ⟨rfl,rfl⟩
    ·skip
     refine wpS_bind (wpS_reverse ?_)
     have hB4:=hB3.mirror (i:=lo) (j:=lo + m) (by lia) (by lia) hsz
     have hT:=hs3.turn (κ:=κ) (lo:=lo) (n:=m) (by lia)
     refine wpS_bind (ascL (κ:=κ) (lo:=lo) (fun x n' g1 g2=>?_) (by lia) hm2 hT fun m' hm1' hm2' hsm _=>wpS_pure (h m' _ hB4 (by lia) hm2' hsm))
     dsimp only
     refine wpS_bind (wpS_ltI C h0 hB4.S (by lia) (by lia) ?_)
     cases κ.blt (KK κ _ (lo + n')) (KK κ _ (lo + n' - 1))
     ·exact wpS_pure ⟨rfl,rfl⟩
     ·exact wpS_pure ⟨rfl,rfl⟩
 ·skip
  have hn1':n = 1:=by lia
  have hB2:=L0
  have hN:NI κ (arrOf st) lo (n + 1):=by
   refine NI.step (by lia) (fun _=>rfl) (fun i j hij hj=>?_) (KeyOrd.kle_of_klt hlt)
   have:i = j:=by lia
   subst this; exact KeyOrd.kle_refl _
  refine wpS_bind (wpS_lift (wpAny_rule ⟨rfl,?_⟩))
  refine wpS_bind (descL (κ:=κ) (kd:=kd) (a₀:=a₀) (st0:=st) (lo:=lo) hsz (fun x n' q st' g1 g2 hB'=>?_) (by lia) (by lia) hB2 hN fun m q st' hB3 hm1 hm2 hs3 hq he=>?_)
  ·dsimp only
   refine wpS_bind (wpS_ltI C h0 hB'.S (by lia) (by lia) ?_)
   cases κ.blt (KK κ (arrOf st') (lo + n')) (KK κ (arrOf st') (lo + n' - 1))
   ·simp only [Bool.false_eq_true,if_false]
    refine wpS_bind (wpS_ltI C h0 hB'.S (by lia) (by lia) ?_)
    cases κ.blt (KK κ (arrOf st') (lo + n' - 1)) (KK κ (arrOf st') (lo + n'))
    ·exact wpS_pure ⟨rfl,rfl⟩
    ·exact wpS_pure ⟨rfl,rfl⟩
   ·simp only [if_true]
    by_cases hq:q > 0
    ·rw [if_pos hq,if_pos hq]
     exact wpS_bind (wpS_reverse (wpS_pure ⟨rfl,rfl⟩))
    ·rw [if_neg hq,if_neg hq]
     exact wpS_pure ⟨rfl,rfl⟩
  ·dsimp only
   have hz3:=hB3.S.size
   refine wpS_if (fun hq0=>?_) (fun hq0=>?_)
   ·skip
    refine wpS_bind (wpS_reverse (wpS_bind (wpS_reverse ?_)))
    have hB4':=hB3.mirror (i:=lo + m - (q + 1)) (j:=lo + m) (by lia) (by lia) hsz
    have hB4:=hB4'.mirror (i:=lo) (j:=lo + m) (by lia) (by lia) hsz
    have hz4:=hB4'.S.size
    have hN4:NI κ (mirror (arrOf st') (lo + m - (q + 1)) (lo + m) ((lo + m - (lo + m - (q + 1))) / 2)) lo m:=by
     have hk:=KK_mirror_equal (κ:=κ) (xs:=arrOf st') (i:=lo + m - (q + 1)) (j:=lo + m) (by lia) (fun k g1 g2=>by
      have:=he (k - lo) (by lia) (by lia)
      rw [show lo + (k - lo) = k by lia] at this
      exact this)
     intro i j hij hj
     rw [hk,hk]
     exact hs3 i j hij hj
    have hT:=hN4.turn (κ:=κ) (lo:=lo) (n:=m) (by rw [mirror_size]; lia)
    refine wpS_bind (ascL (κ:=κ) (lo:=lo) (fun x n' g1 g2=>?_) (by lia) hm2 hT fun m' hm1' hm2' hsm _=>wpS_pure (h m' _ hB4 (by lia) hm2' hsm))
    dsimp only
    refine wpS_bind (wpS_ltI C h0 hB4.S (by lia) (by lia) ?_)
    cases κ.blt (KK κ _ (lo + n')) (KK κ _ (lo + n' - 1))
    ·exact wpS_pure ⟨rfl,rfl⟩
    ·exact wpS_pure ⟨rfl,rfl⟩
   ·skip
    refine wpS_bind (wpS_reverse ?_)
    have hB4:=hB3.mirror (i:=lo) (j:=lo + m) (by lia) (by lia) hsz
    have hT:=hs3.turn (κ:=κ) (lo:=lo) (n:=m) (by lia)
    refine wpS_bind (ascL (κ:=κ) (lo:=lo) (fun x n' g1 g2=>?_) (by lia) hm2 hT fun m' hm1' hm2' hsm _=>wpS_pure (h m' _ hB4 (by lia) hm2' hsm))
    dsimp only
    refine wpS_bind (wpS_ltI C h0 hB4.S (by lia) (by lia) ?_)
    cases κ.blt (KK κ _ (lo + n')) (KK κ _ (lo + n' - 1))
    ·exact wpS_pure ⟨rfl,rfl⟩
    ·exact wpS_pure ⟨rfl,rfl⟩
theorem Lo.bubble {st0 st:SortSt} {lo n src d:Nat} (h:Lo κ kd a₀ st0 lo n st) (h1:lo + d<=src) (h2:src < lo + n) (hn:lo + n<=a₀.size):Lo κ kd a₀ st0 lo n (setArr st (bubble (arrOf st) src d)):=by
 refine ⟨⟨(Array.perm_iff_toList_perm.mp (bubble_perm _ _ _)).trans h.S.perm,h.S.kind,h.S.failed⟩,h.pend,fun t ht=>?_⟩
 show (PyProof.Rows.bubble (arrOf st) src d)[t]? = _
 have:=h.S.size
 rw [getElem?_bubble (by lia) d (by lia),if_neg (by lia),if_neg (by lia)]
 exact h.out t ht
theorem wpS_binarySort (C:Cmp prog w A s κ kd) (h0:KeysOf κ a₀) {st0 st:SortSt} {lo nrem n ok:Nat} {Q:Bool->SortSt->Prop} (hB:Lo κ kd a₀ st0 lo nrem st) (hsz:lo + nrem<=a₀.size) (hn:n<=nrem) (hok:ok<=n) (hs:SI κ (arrOf st) lo ok)
  (h:∀ st',Lo κ kd a₀ st0 lo nrem st'->SI κ (arrOf st') lo n->Q true st'):wpS (model prog w) A E s (binarySort' lo n ok) Q st:=by
 rw [binarySort'_eq]
 refine wpS_bind (wpS_mono (wpS_forRange (I:=fun k c st'=>c = (none,())/\Lo κ kd a₀ st0 lo nrem st'/\SI κ (arrOf st') lo (min k n))
  (Q:=fun c st'=>c = (none,())/\Lo κ kd a₀ st0 lo nrem st'/\SI κ (arrOf st') lo n) ?step ?fin ?init) ?post)
 case post =>
  intro c st' zq11
  refine o0_3 zq11 fun zq12 hB' hs'=>?_
  subst zq12
  exact wpS_pure (h st' hB' hs')
 case init =>
  refine ⟨rfl,hB,fun i j hij hj=>?_⟩
  by_cases h1:ok = 0
  ·have:i = j:=by lia
   subst this; exact KeyOrd.kle_refl _
  ·exact hs i j hij (by lia)
 case fin =>
  intro c st' zq13
  refine o0_3 zq13 fun hc hB' hs'=>?_
  refine ⟨hc,hB',?_⟩
  rwa [show min (max (max ok 1) n) n = n by lia] at hs'
 case step =>
  intro k c st' hak hkn zq14
  refine o0_3 zq14 fun zq15 hB' hs'=>?_
  subst zq15
  rw [show min k n = k by lia] at hs'
  refine wpS_bind (wpS_mono (wpS_forRange (I:=fun x c st''=>st'' = st'/\∃ l r,c = (none,l,r)/\l<=r/\r<=k/\r - l<=k - x /\
    (∀ i,i < l->κ.kle (KK κ (arrOf st') (lo + i)) (KK κ (arrOf st') (lo + k)))/\(∀ i,r<=i->i < k->κ.klt (KK κ (arrOf st') (lo + k)) (KK κ (arrOf st') (lo + i))))
   (Q:=fun c st''=>st'' = st'/\∃ l r,c = (none,l,r)/\l<=k /\
    (∀ i,i < l->κ.kle (KK κ (arrOf st') (lo + i)) (KK κ (arrOf st') (lo + k)))/\(∀ i,l<=i->i < k->κ.klt (KK κ (arrOf st') (lo + k)) (KK κ (arrOf st') (lo + i)))) ?istep ?ifin ?iinit) ?ipost)
  case iinit=>exact ⟨rfl,0,k,rfl,by lia,by lia,by lia,fun i hi=>by lia,fun i h1 h2=>by lia⟩
  case ifin =>
   intro c st'' zq16
   obtain ⟨zq17,l,r,zq18,hlr,hrk,hm,hlo,hhi⟩:=zq16
   subst zq17
   subst zq18
   have:l = r:=by lia
   subst this
   exact ⟨rfl,l,l,rfl,hrk,hlo,hhi⟩
  case istep =>
   intro x c st'' _ hxk zq19
   obtain ⟨zq20,l,r,zq21,hlr,hrk,hm,hlo,hhi⟩:=zq19
   subst zq20
   subst zq21
   dsimp only
   refine wpS_if (fun hge=>?_) (fun hge=>?_)
   ·skip
    have:l = r:=by lia
    subst this
    exact wpS_pure ⟨rfl,l,l,rfl,hrk,hlo,hhi⟩
   ·skip
    refine wpS_bind (wpS_ltI C h0 hB'.S (by lia) (by lia) ?_)
    dsimp only
    cases hless:κ.blt (KK κ (arrOf st'') (lo + k)) (KK κ (arrOf st'') (lo + (l + r) / 2))
    case true =>
     simp only [if_true]
     refine wpS_pure ⟨rfl,l,(l + r) / 2,rfl,by lia,by lia,by lia,hlo,fun i h1 h2=>?_⟩
     exact KeyOrd.klt_of_klt_of_kle hless (hs' _ _ h1 h2)
    case false =>
     simp only [Bool.false_eq_true,if_false]
     refine wpS_pure ⟨rfl,(l + r) / 2 + 1,r,rfl,by lia,by lia,by lia,fun i h1=>?_,hhi⟩
     exact KeyOrd.kle_trans (hs' i ((l + r) / 2) (by lia) (by lia)) (show κ.kle _ _ from hless)
  case ipost =>
   intro c st'' zq22
   obtain ⟨zq23,l,r,zq24,hlk,hlo,hhi⟩:=zq22
   subst zq23
   subst zq24
   have hz:=hB'.S.size
   show wpS _ _ _ _ (do moveDown' (lo + k) (lo + l); pure (ForInStep.yield (none,()))) _ _
   rw [moveDown'_eq]
   refine wpS_bind (wpS_modify (wpS_pure ⟨rfl,hB'.bubble (by lia) (by lia) hsz,?_⟩))
   rw [show min (k + 1) n = k + 1 by lia]
   intro i j hij hj
   show κ.kle (KK κ (bubble (arrOf st'') (lo + k) (lo + k - (lo + l))) (lo + i)) (KK κ (bubble (arrOf st'') (lo + k) (lo + k - (lo + l))) (lo + j))
   rw [KK_bubble (by lia) (by lia),KK_bubble (by lia) (by lia),show lo + k - (lo + k - (lo + l)) = lo + l by lia]
   have shift:∀ z,1<=z->lo + z - 1 = lo + (z - 1):=fun z _=>by lia
   repeat' split
   all_goals first
    | (exfalso; lia)
    | exact KeyOrd.kle_refl _
    | exact hlo _ (by lia)
    | exact KeyOrd.kle_of_klt (hhi _ (by lia) (by lia))
    | exact hs' _ _ (by lia) (by lia)
    | (rw [shift j (by lia)]; exact KeyOrd.kle_of_klt (hhi _ (by lia) (by lia)))
    | (rw [shift i (by lia)]; exact hlo _ (by lia))
    | (rw [shift j (by lia)]; exact hs' _ _ (by lia) (by lia))
    | (rw [shift i (by lia),shift j (by lia)]; exact hs' _ _ (by lia) (by lia))
    | (rw [shift i (by lia)]; exact hs' _ _ (by lia) (by lia))
end
end TS
namespace TS
open PySem PyProof.Rows
noncomputable abbrev Run:=Nat × Nat × Nat
noncomputable def Cov:List Run->Nat->Nat->Prop
 | [],a,b=>a = b
 | x :: r,a,b=>x.1 = a/\1<=x.2.1/\Cov r (a + x.2.1) b
theorem Cov.app:∀ {l1 l2:List Run} {a b:Nat},Cov (l1 ++ l2) a b ↔ ∃ c,Cov l1 a c/\Cov l2 c b
 | [],l2,a,b=>⟨fun h=>⟨a,rfl,h⟩,fun ⟨c,h1,h2⟩=>by have:a = c:=h1; subst this; exact h2⟩
 | x :: r,l2,a,b=>by
  constructor
  ·intro zq1
   refine o0_3 zq1 fun h1 h2 h3=>?_
   refine o1_2 (Cov.app.mp h3) fun c h4 h5=>?_
   exact ⟨c,⟨h1,h2,h4⟩,h5⟩
  ·intro zq2
   refine o1_2 zq2 fun c zq3 h5=>?_
   refine o0_3 zq3 fun h1 h2 h4=>?_
   exact ⟨h1,h2,Cov.app.mpr ⟨c,h4,h5⟩⟩
theorem Cov.le:∀ {l:List Run} {a b:Nat},Cov l a b->a + l.length<=b
 | [],a,b,h=>by have:a = b:=h; subst this; simp
 | x :: r,a,b,⟨h1,h2,h3⟩=>by have:=Cov.le h3; rw [List.length_cons]; lia
theorem Cov.mem:∀ {l:List Run} {a b:Nat} {x:Run},Cov l a b->x ∈ l->a<=x.1/\x.1 + x.2.1<=b
 | [],_,_,_,_,hx=>absurd hx (by simp)
 | y :: r,a,b,x,⟨h1,h2,h3⟩,hx=>by
  have hl:=Cov.le h3
  rcases List.mem_cons.mp hx with e | hx
  ·subst e; lia
  ·have:=Cov.mem h3 hx; lia
theorem cut2 {l:List Run} {i:Nat} {x y:Run} (hx:l[i]? = some x) (hy:l[i + 1]? = some y):l = l.take i ++ x :: y :: l.drop (i + 2):=by
 obtain ⟨h1,rfl⟩:=List.getElem?_eq_some_iff.mp hx
 obtain ⟨h2,rfl⟩:=List.getElem?_eq_some_iff.mp hy
 conv=>lhs; rw [<-List.take_append_drop i l]
 rw [List.drop_eq_getElem_cons h1,List.drop_eq_getElem_cons h2]
theorem join2 {l:List Run} {i:Nat} {x y:Run} (z:Run) (hx:l[i]? = some x) (hy:l[i + 1]? = some y):(l.set i z).eraseIdx (i + 1) = l.take i ++ z :: l.drop (i + 2):=by
 obtain ⟨h1,_⟩:=List.getElem?_eq_some_iff.mp hx
 obtain ⟨h2,_⟩:=List.getElem?_eq_some_iff.mp hy
 have e:=cut2 hx hy
 have hl:(l.take i).length = i:=by rw [List.length_take]; lia
 generalize l.take i = p at *
 generalize l.drop (i + 2) = q at *
 subst e
 rw [List.set_append_right _ _ (by lia),hl,Nat.sub_self,List.eraseIdx_append_of_length_le (by lia),hl,show i + 1 - i = 1 by lia]
 rfl
section
variable {prog:Program} {w:World} {A:Around} {E:Value->Shared->Prop} {s:Shared} {κ:KeyKind} {kd:SortKind} {a₀:Array Keyed}
structure RI (κ:KeyKind) (kd:SortKind) (a₀:Array Keyed) (lo:Nat) (st:SortSt):Prop where
 S:St κ kd a₀ st
 cov:Cov (pendingOf st).toList 0 lo
 sor:∀ x ∈ (pendingOf st).toList,Sor κ (seg (arrOf st).toList x.1 x.2.1)
theorem wpS_mrg (C:Cmp prog w A s κ kd) (h0:KeysOf κ a₀) {st:SortSt} {lo i:Nat} {Q:Bool->SortSt->Prop} (R:RI κ kd a₀ lo st) (hlo:lo<=a₀.size) (hi:i + 1 < (pendingOf st).size)
  (h:∀ st',RI κ kd a₀ lo st'->(pendingOf st').size + 1 = (pendingOf st).size->Part κ (arrOf st).toList (arrOf st').toList 0 lo->Q true st'):wpS (model prog w) A E s (mergeAt' i) Q st:=by
 obtain ⟨⟨sa,na,pw⟩,hx⟩:∃ x,(pendingOf st)[i]? = some x:=⟨_,getElem?_pos _ i (by lia)⟩
 obtain ⟨⟨sb,nb,pw2⟩,hy⟩:∃ x,(pendingOf st)[i + 1]? = some x:=⟨_,getElem?_pos _ (i + 1) hi⟩
 have hx':(pendingOf st).toList[i]? = some (sa,na,pw):=by rw [Array.getElem?_toList]; exact hx
 have hy':(pendingOf st).toList[i + 1]? = some (sb,nb,pw2):=by rw [Array.getElem?_toList]; exact hy
 have e:=cut2 hx' hy'
 have c:=R.cov
 rw [e] at c
 refine o1_2 (Cov.app.mp c) fun c0 c1 c2=>?_
 refine o0_5 c2 fun d1 d2 d3 d4 d5=>?_
 try clear c2
 dsimp only at d1 d2 d3 d4 d5
 have hl5:=Cov.le d5
 refine wpS_mergeAt C h0 R.S hx hy (by lia) (by lia) d2 d4 (R.sor _ (List.mem_of_getElem? hx')) (R.sor _ (List.mem_of_getElem? hy')) fun st' S' P' s' p'=>?_
 have ep:(pendingOf st').toList = (pendingOf st).toList.take i ++ (sa,na + nb,pw) :: (pendingOf st).toList.drop (i + 2):=by
  rw [p',<-join2 (sa,na + nb,pw) hx' hy']
  simp
 refine h st' ⟨S',?_,fun x hxm=>?_⟩ ?_ ?_
 ·rw [ep]
  exact Cov.app.mpr ⟨c0,c1,d1,(by show 1<=na + nb; lia),(by show Cov _ (c0 + (na + nb)) lo; rw [<-Nat.add_assoc]; exact d5)⟩
 ·rw [ep] at hxm
  have old:∀ y ∈ (pendingOf st).toList,(y.1 + y.2.1<=sa\/sa + (na + nb)<=y.1)->Sor κ (seg (arrOf st').toList y.1 y.2.1):=fun y hy ho=>by
   have:=R.sor y hy
   rcases ho with ho | ho
   ·rw [P'.seg_front ho]; exact this
   ·rw [P'.seg_back ho]; exact this
  rcases List.mem_append.mp hxm with hm | hm
  ·have:=Cov.mem c1 hm
   exact old x (List.mem_of_mem_take hm) (.inl (by lia))
  ·rcases List.mem_cons.mp hm with hm | hm
   ·subst hm
    exact s'
   ·have:=Cov.mem d5 hm
    exact old x (List.mem_of_mem_drop hm) (.inr (by lia))
 ·have:=congrArg List.length ep
  rw [Array.length_toList,List.length_append,List.length_cons,List.length_take,List.length_drop,Array.length_toList] at this
  lia
 ·have hb:∀ z:List Keyed,z.drop (0 + lo) = (z.drop (sa + (na + nb))).drop (lo - (sa + (na + nb))):=fun z=>by
   rw [List.drop_drop]; congr 1; lia
  exact ⟨P'.perm,rfl,by rw [hb,hb,P'.back]⟩
theorem modify_last {l:Array Run} {pw:Nat}:(l.modify (l.size - 1) fun x=>(x.1,x.2.1,pw)).toList.map (fun x:Run=>(x.1,x.2.1)) = l.toList.map fun x:Run=>(x.1,x.2.1):=by
 refine List.ext_getElem? fun t=>?_
 rw [List.getElem?_map,List.getElem?_map,Array.getElem?_toList,Array.getElem?_toList,Array.getElem?_modify]
 split
 ·cases l[t]? <;> rfl
 ·rfl
theorem Cov.congr:∀ {l l':List Run} {a b:Nat},l'.map (fun x:Run=>(x.1,x.2.1)) = l.map (fun x:Run=>(x.1,x.2.1))->Cov l a b->Cov l' a b
 | [],[],_,_,_,h=>h
 | [],_ :: _,_,_,e,_=>by simp at e
 | _ :: _,[],_,_,e,_=>by simp at e
 | x :: r,y :: r',a,b,e,⟨h1,h2,h3⟩=>by
  rw [List.map_cons,List.map_cons] at e
  refine o0_2 (List.cons.inj e) fun e1 e2=>?_
  refine o0_2 (Prod.mk.inj e1) fun e3 e4=>?_
  exact ⟨e3.trans h1,by rw [e4]; exact h2,by rw [e4]; exact Cov.congr e2 h3⟩
theorem RI.congr {lo:Nat} {st:SortSt} (R:RI κ kd a₀ lo st) {p:Array Run} (e:p.toList.map (fun x:Run=>(x.1,x.2.1)) = (pendingOf st).toList.map fun x:Run=>(x.1,x.2.1)):RI κ kd a₀ lo (setPending st p):=by
 refine ⟨⟨R.S.perm,R.S.kind,R.S.failed⟩,Cov.congr e R.cov,fun x hx=>?_⟩
 have:(x.1,x.2.1) ∈ (pendingOf st).toList.map fun x:Run=>(x.1,x.2.1):=by
  rw [<-e]
  exact List.mem_map.mpr ⟨x,hx,rfl⟩
 refine o1_2 (List.mem_map.mp this) fun y hy ey=>?_
 refine o0_2 (Prod.mk.inj ey) fun e1 e2=>?_
 have:=R.sor y hy
 rw [e1,e2] at this
 exact this
theorem wpS_sortRunsA (C:Cmp prog w A s κ kd) (h0:KeysOf κ a₀) {st:SortSt} {Q:Unit->SortSt->Prop} (hS:St κ kd a₀ st) (hp:pendingOf st = #[])
  (h:∀ st',St κ kd a₀ st'->Sor κ (arrOf st').toList->Q () st'):wpS (model prog w) A E s sortRuns' Q st:=by
 rw [sortRuns'_eq]
 refine wpS_bind (wpS_get ?_)
 dsimp only
 have hz:=hS.size
 rw [hz]
 generalize minRun' a₀.size a₀.size 0 = mr
 refine wpS_bind (wpS_mono (wpS_forRange (I:=fun x c st'=>∃ lo,c = (none,lo)/\RI κ kd a₀ lo st'/\lo<=a₀.size/\min x a₀.size<=lo)
  (Q:=fun c st'=>∃ lo,c = (none,lo)/\RI κ kd a₀ lo st'/\lo = a₀.size) ?st ?en ⟨0,rfl,⟨hS,by rw [hp]; rfl,fun x hx=>by rw [hp] at hx; exact absurd hx (by simp)⟩,Nat.zero_le _,by lia⟩) ?po)
 case en =>
  intro c st' zq4
  refine o1_4 zq4 fun lo zq5 R h1 h2=>?_
  subst zq5
  exact ⟨lo,rfl,R,by lia⟩
 case po =>
  intro c st' zq6
  refine o1_3 zq6 fun lo zq7 R zq8=>?_
  subst zq7
  subst zq8
  refine wpS_bind (wpS_mono (wpS_forRange (I:=fun x c st'=>c = (none,())/\RI κ kd a₀ a₀.size st'/\(pendingOf st').size + x<=a₀.size + 1)
   (Q:=fun c st'=>c = (none,())/\RI κ kd a₀ a₀.size st'/\(pendingOf st').size<=1) ?st3 ?en3 ⟨rfl,R,?in3⟩) ?po3)
  case in3 =>
   have:=Cov.le R.cov
   rw [Array.length_toList] at this
   lia
  case en3 =>
   intro c st2 zq9
   refine o0_3 zq9 fun zq10 R2 g=>?_
   subst zq10
   exact ⟨rfl,R2,by lia⟩
  case po3 =>
   intro c st2 zq11
   refine o0_3 zq11 fun zq12 R2 g=>?_
   subst zq12
   refine wpS_pure (h st2 R2.S ?_)
   have c:=R2.cov
   have so:=R2.sor
   have hz2:=R2.S.size
   have hl:(pendingOf st2).toList.length<=1:=by rw [Array.length_toList]; exact g
   generalize (pendingOf st2).toList = l at c so hl
   match l,c,so,hl with
   | [],c,_,_ =>
    have c':0 = a₀.size:=c
    have:(arrOf st2).toList = []:=List.eq_nil_of_length_eq_zero (by rw [Array.length_toList]; lia)
    rw [this]
    exact List.Pairwise.nil
   | [x],⟨c1,c2,c3⟩,so,_ =>
    have c3':0 + x.2.1 = a₀.size:=c3
    have:=so x (List.mem_singleton.mpr rfl)
    unfold seg at this
    rw [c1,List.drop_zero,List.take_of_length_le (by rw [Array.length_toList]; lia)] at this
    exact this
   | _ :: _ :: _,_,_,hl=>exact absurd hl (by simp)
  case st3 =>
   intro x c st2 _ hx zq13
   refine o0_3 zq13 fun zq14 R2 g=>?_
   subst zq14
   try dsimp only
   refine wpS_bind (wpS_get ?_)
   by_cases hle:(pendingOf st2).size<=1
   ·rw [if_pos hle]
    exact wpS_pure ⟨rfl,R2,hle⟩
   rw [if_neg hle]
   refine wpS_bind (wpS_mrg C h0 R2 (Nat.le_refl _) ?_ fun st3 R3 e3 _=>?_)
   ·have hi2:∀ {c:Prop} [Decidable c] {n:Nat},(if c then n - 1 else n) + 1<=n + 1:=by intro c _ n; split <;> lia
    exact Nat.lt_of_le_of_lt hi2 (by lia)
   ·simp only [Bool.not_true,Bool.false_eq_true,if_false]
    exact wpS_pure ⟨rfl,R3,by lia⟩
 case st =>
  intro x c st' _ hx zq15
  refine o1_4 zq15 fun lo zq16 R h1 h2=>?_
  subst zq16
  dsimp only
  by_cases hge:lo ≥ a₀.size
  ·rw [if_pos hge]
   exact wpS_pure ⟨lo,rfl,R,by lia⟩
  rw [if_neg hge]
  refine wpS_bind (wpS_countRun C h0 R.S (by lia) (by lia) fun m st2 L2 hm1 hm2 hs2=>?_)
  dsimp only
  by_cases hmr:m < mr
  ·rw [if_pos hmr]
   refine wpS_bind (wpS_lift (wpAny_rule ⟨rfl,?_⟩))
   refine wpS_bind (wpS_binarySort C h0 L2 (by lia) (show min (a₀.size - lo) mr<=a₀.size - lo by lia) (by lia) hs2 fun st5 L5 s5=>?_)
   simp only [Bool.not_true,Bool.false_eq_true,if_false]
   have hN:1<=min (a₀.size - lo) mr/\min (a₀.size - lo) mr<=a₀.size - lo:=by lia
   generalize min (a₀.size - lo) mr = N at hN s5 ⊢
   have R5:RI κ kd a₀ lo st5:=by
    refine ⟨L5.S,by rw [L5.pend]; exact R.cov,fun y hy=>?_⟩
    rw [L5.pend] at hy
    have hc:=Cov.mem R.cov hy
    rw [(L5.part R.S).seg_front (by lia)]
    exact R.sor y hy
   refine wpS_bind (wpS_get ?_)
   have push:∀ (st6:SortSt),RI κ kd a₀ lo st6->Sor κ (seg (arrOf st6).toList lo N)->RI κ kd a₀ (lo + N) (setPending st6 ((pendingOf st6).push (lo,N,0))):=fun st6 R6 s6=>by
    refine ⟨⟨R6.S.perm,R6.S.kind,R6.S.failed⟩,?_,fun y hy=>?_⟩
    ·show Cov ((pendingOf st6).push (lo,N,0)).toList 0 (lo + N)
     rw [Array.toList_push]
     exact Cov.app.mpr ⟨lo,R6.cov,rfl,(by show 1<=N; lia),rfl⟩
    ·have hy':y ∈ ((pendingOf st6).push (lo,N,0)).toList:=hy
     rw [Array.toList_push] at hy'
     rcases List.mem_append.mp hy' with hy' | hy'
     ·exact R6.sor y hy'
     ·rw [List.mem_singleton.mp hy']
      exact s6
   cases hbk:(pendingOf st5).back? with
   | none =>
    refine wpS_bind (wpS_modify (wpS_pure ⟨_,rfl,push _ R5 s5.sor,by lia,by lia⟩))
   | some bk =>
    obtain ⟨s1,n1,pb⟩:=bk
    dsimp only
    generalize power' a₀.size (2 * s1 + n1) (2 * s1 + n1 + n1 + N) a₀.size = pw
    refine wpS_bind (wpS_mono (wpS_forRange (I:=fun x c st6=>c = (none,())/\RI κ kd a₀ lo st6/\Part κ (arrOf st5).toList (arrOf st6).toList 0 lo)
     (Q:=fun c st6=>c = (none,())/\RI κ kd a₀ lo st6/\Part κ (arrOf st5).toList (arrOf st6).toList 0 lo) ?stc1 (fun _ _ z=>z) ⟨rfl,R5,Part.refl _ _ _⟩) ?poc1)
    case stc1 =>
     intro x' c st6 _ _ zq17
     refine o0_3 zq17 fun zq18 R6 P6=>?_
     subst zq18
     try dsimp only
     refine wpS_bind (wpS_get ?_)
     by_cases hp1:(pendingOf st6).size > 1
     ·rw [if_pos hp1]
      obtain ⟨⟨u1,u2,ol⟩,hu⟩:∃ y,(pendingOf st6)[(pendingOf st6).size - 2]? = some y:=⟨_,getElem?_pos _ _ (by lia)⟩
      rw [hu]
      dsimp only
      by_cases hol:ol<=pw
      ·rw [if_pos hol]
       exact wpS_pure ⟨rfl,R6,P6⟩
      rw [if_neg hol]
      refine wpS_bind (wpS_mrg C h0 R6 h1 (by lia) fun st7 R7 _ P7=>?_)
      simp only [Bool.not_true,Bool.false_eq_true,if_false]
      exact wpS_pure ⟨rfl,R7,⟨P7.perm.trans P6.perm,rfl,P7.back.trans P6.back⟩⟩
     ·rw [if_neg hp1]
      exact wpS_pure ⟨rfl,R6,P6⟩
    case poc1 =>
     intro c st6 zq19
     refine o0_3 zq19 fun zq20 R6 P6=>?_
     subst zq20
     refine wpS_bind (wpS_modify (wpS_bind (wpS_modify (wpS_pure ⟨_,rfl,push _ (R6.congr modify_last) ?_,by lia,by lia⟩))))
     show Sor κ (seg (arrOf st6).toList lo N)
     rw [P6.seg_back (by lia)]
     exact s5.sor
  ·rw [if_neg hmr]
   have R5:RI κ kd a₀ lo st2:=by
    refine ⟨L2.S,by rw [L2.pend]; exact R.cov,fun y hy=>?_⟩
    rw [L2.pend] at hy
    have hc:=Cov.mem R.cov hy
    rw [(L2.part R.S).seg_front (by lia)]
    exact R.sor y hy
   refine wpS_bind (wpS_get ?_)
   have push:∀ (st6:SortSt),RI κ kd a₀ lo st6->Sor κ (seg (arrOf st6).toList lo m)->RI κ kd a₀ (lo + m) (setPending st6 ((pendingOf st6).push (lo,m,0))):=fun st6 R6 s6=>by
    refine ⟨⟨R6.S.perm,R6.S.kind,R6.S.failed⟩,?_,fun y hy=>?_⟩
    ·show Cov ((pendingOf st6).push (lo,m,0)).toList 0 (lo + m)
     rw [Array.toList_push]
     exact Cov.app.mpr ⟨lo,R6.cov,rfl,(by show 1<=m; lia),rfl⟩
    ·have hy':y ∈ ((pendingOf st6).push (lo,m,0)).toList:=hy
     rw [Array.toList_push] at hy'
     rcases List.mem_append.mp hy' with hy' | hy'
     ·exact R6.sor y hy'
     ·rw [List.mem_singleton.mp hy']
      exact s6
   cases hbk:(pendingOf st2).back? with
   | none =>
    refine wpS_bind (wpS_modify (wpS_pure ⟨_,rfl,push _ R5 hs2.sor,by lia,by lia⟩))
   | some bk =>
    obtain ⟨s1,n1,pb⟩:=bk
    dsimp only
    generalize power' a₀.size (2 * s1 + n1) (2 * s1 + n1 + n1 + m) a₀.size = pw
    refine wpS_bind (wpS_mono (wpS_forRange (I:=fun x c st6=>c = (none,())/\RI κ kd a₀ lo st6/\Part κ (arrOf st2).toList (arrOf st6).toList 0 lo)
     (Q:=fun c st6=>c = (none,())/\RI κ kd a₀ lo st6/\Part κ (arrOf st2).toList (arrOf st6).toList 0 lo) ?stc2 (fun _ _ z=>z) ⟨rfl,R5,Part.refl _ _ _⟩) ?poc2)
    case stc2 =>
     intro x' c st6 _ _ zq21
     refine o0_3 zq21 fun zq22 R6 P6=>?_
     subst zq22
     try dsimp only
     refine wpS_bind (wpS_get ?_)
     by_cases hp1:(pendingOf st6).size > 1
     ·rw [if_pos hp1]
      obtain ⟨⟨u1,u2,ol⟩,hu⟩:∃ y,(pendingOf st6)[(pendingOf st6).size - 2]? = some y:=⟨_,getElem?_pos _ _ (by lia)⟩
      rw [hu]
      dsimp only
      by_cases hol:ol<=pw
      ·rw [if_pos hol]
       exact wpS_pure ⟨rfl,R6,P6⟩
      rw [if_neg hol]
      refine wpS_bind (wpS_mrg C h0 R6 h1 (by lia) fun st7 R7 _ P7=>?_)
      simp only [Bool.not_true,Bool.false_eq_true,if_false]
      exact wpS_pure ⟨rfl,R7,⟨P7.perm.trans P6.perm,rfl,P7.back.trans P6.back⟩⟩
     ·rw [if_neg hp1]
      exact wpS_pure ⟨rfl,R6,P6⟩
    case poc2 =>
     intro c st6 zq23
     refine o0_3 zq23 fun zq24 R6 P6=>?_
     subst zq24
     refine wpS_bind (wpS_modify (wpS_bind (wpS_modify (wpS_pure ⟨_,rfl,push _ (R6.congr modify_last) ?_,by lia,by lia⟩))))
     show Sor κ (seg (arrOf st6).toList lo m)
     rw [P6.seg_back (by lia)]
     exact hs2.sor
end
end TS
namespace TS
open PySem PyProof.Rows
noncomputable def kd1 (κ:KeyKind) (v:Value):κ.α:=(κ.keyOf v).getD κ.dflt
section
variable {prog:Program} {w:World} {A:Around} {E:Value->Shared->Prop} {s:Shared} {κ:KeyKind} {kd:SortKind}
noncomputable def Ext (a:Addr) (s s':Shared):Prop:=∀ b o,b ≠ a->s.heap.get? b = some o->s'.heap.get? b = some o
structure Keys (prog:Program) (w:World) (a:Addr) (s:Shared) (κ:KeyKind) (kd:SortKind) (vs:List Value):Prop where
 cmp:∀ (A:Around) (s':Shared),Ext a s s'->Cmp prog w A s' κ kd
 key:∀ v ∈ vs,∃ k,κ.keyOf v = some k
 kind:2<=vs.length->∀ (A:Around) (E:Value->Shared->Prop) (s':Shared) (Q:SortKind->Shared->Prop),Ext a s s'->Q kd s'->wpAny (model prog w) A (keyKind' vs.toArray) Q E s'
noncomputable def Out (κ:KeyKind) (vs:List Value) (out:Array Value):Prop:=out.toList.Perm vs/\out.toList.Pairwise fun u v=>κ.kle (kd1 κ u) (kd1 κ v)
theorem out_of {vs:List Value} {xs:Array Keyed} (hp:xs.toList.Perm (pairsOf vs).toList) (hs:Sor κ xs.toList):Out κ vs (xs.map (·.2)):=by
 rw [pairsOf_toList] at hp
 have hm:∀ p ∈ xs.toList,p.1 = p.2:=fun p h=>(mem_zip_self (hp.mem_iff.mp h)).1
 have e:(xs.map (·.2)).toList = xs.toList.map (·.1):=by
  rw [Array.toList_map]; exact List.map_congr_left fun p h=>(hm p h).symm
 refine ⟨?_,?_⟩
 ·rw [e]
  have:=hp.map Prod.fst
  rwa [List.map_fst_zip (Nat.le_refl _)] at this
 ·rw [e,List.pairwise_map]
  exact hs
theorem list_sort_gen {a:Addr} {vs:List Value} {n:Nat} {P:Fin->Shared->Prop} (ho:s.heap.get? a = some (seqObj "list" vs.toArray n)) (hz:vs.length<=sizeLine) (K:Keys prog w a s κ kd vs)
  (h:∀ out:Array Value,Out κ vs out->P (.done (.ret .none)) { s with heap:=sortedHeap s.heap a vs out }) :
  wpAny (model prog w) A (Builtin.«list.sort» ⟨[.ref a],[]⟩) P E s:=by
 rw [list_sort_plain]
 have ha:a < s.heap.objs.size:=Heap.lt_size ho
 have hsz:vs.toArray.size = vs.length:=by simp
 refine wpAny_bind (listItems_at ho rfl ?_)
 refine wpAny_bind (listUpdate_at ho rfl ?_ (by rw [hsz]; exact hz) (by simp))
 obtain ⟨e1,ho1⟩:∃ e1,(s.heap.update a (Obj.mapSeq fun _=>#[])).get? a = some (seqObj "list" #[] e1):=⟨_,get?_update_seq ho (fun _=>#[])⟩
 refine wpAny_bind (seqEpoch_at ho1 rfl ?_)
 refine wpAny_bind (wpAny_newTuple ?_ (by simpa using hz))
 refine wpAny_bind (wpAny_newList ?_)
 refine wpAny_holding ?_
 have ho6:(((s.heap.update a (Obj.mapSeq fun _=>#[])).push (seqObj "tuple" vs.toArray 0)).push (seqObj "list" #[] 0)).get? a = some (seqObj "list" #[] e1):=by
  rw [Heap.get?_push_ne _ _ _ (by rw [size_push',Heap.size_update]; exact Nat.ne_of_lt (Nat.lt_succ_of_lt ha)),Heap.get?_push_ne _ _ _ (by rw [Heap.size_update]; exact Nat.ne_of_lt ha)]
  exact ho1
 show wpAny (model prog w) A _ P E { s with heap:=((s.heap.update a (Obj.mapSeq fun _=>#[])).push (seqObj "tuple" vs.toArray 0)).push (seqObj "list" #[] 0) }
 dsimp only
 have hE:Ext a s { s with heap:=((s.heap.update a (Obj.mapSeq fun _=>#[])).push (seqObj "tuple" vs.toArray 0)).push (seqObj "list" #[] 0) }:=fun b o hb e =>
  Heap.get?_push_of_some _ (Heap.get?_push_of_some _ ((Heap.get?_update_other s.heap _ (Ne.symm hb)).trans e))
 by_cases h2:vs.toArray.size < 2
 ·rw [if_pos h2,if_pos h2]
  refine wpAny_bind (wpAny_pure ?_)
  rw [StateT.run_pure]
  refine wpAny_bind (wpAny_pure ?_)
  dsimp only
  refine wpAny_bind (seqEpoch_at ho6 rfl ?_)
  refine wpAny_bind (listUpdate_at ho6 rfl ?_ (by simp) (by rw [Array.size_map]; show (pairsOf vs).size<=_; rw [pairsOf_size]; lia))
  simp only [bne_self_eq_false,Bool.false_eq_true,if_false]
  refine wpAny_pure (h _ (out_of (κ:=κ) (xs:=pairsOf vs) (List.Perm.refl _) ?_))
  rw [pairsOf_toList]
  rw [hsz] at h2
  match vs,h2 with
  | [],_=>exact List.Pairwise.nil
  | [v],_=>exact List.pairwise_singleton _ _
  | _ :: _ :: _,h2=>simp at h2; lia
 ·rw [if_neg h2,if_neg h2]
  refine wpAny_bind (K.kind (by lia) A E _ _ hE ?_)
  refine wpAny_bind (wpAny_mono (wpS_sortRunsA (K.cmp A _ hE) (a₀:=pairsOf vs) (st:=SortSt.mk' kd (vs.toArray.zip vs.toArray) #[] 7 none)
   (Q:=fun _ st'=>St κ kd (pairsOf vs) st'/\Sor κ (arrOf st').toList)
   (fun p hp=>?_) ⟨List.Perm.refl _,rfl,rfl⟩ rfl fun st' a1 a2=>⟨a1,a2⟩) ?_ fun _ _ e=>e)
  ·rw [pairsOf_toList] at hp
   exact K.key _ (mem_zip_self hp).2
  rintro ⟨⟨⟩,st'⟩ s' ⟨rfl,hp,hs⟩
  dsimp only
  refine wpAny_bind (seqEpoch_at ho6 rfl ?_)
  refine wpAny_bind (listUpdate_at ho6 rfl ?_ (by simp) (by rw [Array.size_map]; show (arrOf st').size<=_; rw [hp.size,pairsOf_size]; lia))
  rw [show failedOf st' = none from hp.failed]
  simp only [bne_self_eq_false,Bool.false_eq_true,if_false]
  exact wpAny_pure (h _ (out_of hp.perm hs))
theorem sorted_gen {x:Value} {Q:Value->Shared->Prop}
  (hc:wpAny (model prog w) A.in1 (collect x) (fun vs s1=>s1.os = s.os/\vs.length<=sizeLine/\(∃ (κ:KeyKind) (kd:SortKind),(∀ s2:Shared,Ext s1.heap.objs.size s1 s2->Keys prog w s1.heap.objs.size s2 κ kd vs) /\
   ∀ (out:Array Value) (h':Heap) (e:Nat),Out κ vs out->(∀ b o,s1.heap.get? b = some o->h'.get? b = some o)->h'.get? s1.heap.objs.size = some (seqObj "list" out e)->Q (.ref s1.heap.objs.size) { s1 with heap:=h' })) E s) :
  wpAny (model prog w) A (call (.builtin "sorted") [x]) Q E s:=by
 refine Calls.call_function_entry kind_sorted plain_sorted entry_sorted (args_sorted1 _) ?_
 unfold Builtin.«sorted»
 refine wpAny_bind (m:=checkCount "sorted" 1 1 _) (wpAny_pure ?_)
 refine wpAny_bind (wpAny_mono hc (fun vs s1 ⟨eos,hz,κ,kd,K,q⟩=>?_) fun _ _ z=>z)
 refine wpAny_bind (wpAny_newList ?_)
 have hoL:(s1.heap.push (seqObj "list" vs.toArray 0)).get? s1.heap.objs.size = some (seqObj "list" vs.toArray 0):=Heap.get?_push_size _ rfl
 show wpAny _ _ _ _ _ { s1 with heap:=s1.heap.push (seqObj "list" vs.toArray 0) }
 have hE:Ext s1.heap.objs.size s1 { s1 with heap:=s1.heap.push (seqObj "list" vs.toArray 0) }:=fun b o _ e=>Heap.get?_push_of_some _ e
 refine wpAny_bind (wpAny_holding (wpAny_call_entry slot_list_sort ⟨_,hoL,rfl⟩ entry_list_sort (list_sort_gen (s:={ s1 with heap:=s1.heap.push (seqObj "list" vs.toArray 0) }) hoL hz (K _ hE) fun out ho=>⟨_,rfl,?_⟩) (args_list_sort _)))
 obtain ⟨e,he⟩:=sortedHeap_at (h:=s1.heap.push (seqObj "list" vs.toArray 0)) (out:=out) hoL
 refine wpAny_pure ⟨_,rfl,q out _ e ho (fun b o eb=>?_) he⟩
 have hlt:=Heap.lt_size eb
 rw [sortedHeap_old (Nat.ne_of_lt hlt) (by rw [size_push']; exact Nat.lt_succ_of_lt hlt)]
 exact Heap.get?_push_of_some _ eb
theorem keys_strs {a:Addr} {vs:List Value} {ss:List Str} (hS:StrsAre vs ss):Keys prog w a s strKind oneType' vs:=by
 refine ⟨fun A s' _=>⟨fun x y k l Q E hx hy q=>?_⟩,fun v hv=>?_,fun h2 A E s' Q _ q=>?_⟩
 ·rw [keyLt'_oneType]
  exact strKind_oneLt prog w A E s' x y k l hx hy q
 ·refine o2_1 (hS.all v hv) fun x t zq1=>?_
  subst zq1
  exact ⟨_,rfl⟩
 ·match vs,h2,hS with
  | v1 :: v2 :: r,_,hS =>
   rw [keyKind_strs hS]
   exact wpAny_pure q
noncomputable def pairLt (a b:List Nat × List Nat):Bool:=decide (a.1 < b.1) || (decide (a.1 = b.1) && decide (a.2 < b.2))
theorem pairLt_iff {a b:List Nat × List Nat}:pairLt a b = true ↔ a.1 < b.1\/(a.1 = b.1/\a.2 < b.2):=by
 unfold pairLt
 simp
theorem tri (a b:List Nat):a < b\/a = b\/b < a:=by
 by_cases h:a < b
 ·exact .inl h
 ·by_cases h':b < a
  ·exact .inr (.inr h')
  ·exact .inr (.inl (List.le_antisymm (List.not_lt.mp h') (List.not_lt.mp h)))
noncomputable def twoStr:List Value->Option (List Nat × List Nat)
 | [.str x _,.str y _]=>some (x.cps.toList,y.cps.toList)
 | _=>none
noncomputable def seqIf (c:Value):Data->Option (List Nat × List Nat)
 | .seq xs _=>if c = .type "tuple" then twoStr xs.toList else none
 | _=>none
noncomputable def pairOf (h:Heap):Value->Option (List Nat × List Nat)
 | .ref p=>(h.get? p).bind fun o=>seqIf o.cls o.data
 | _=>none
@[reducible] noncomputable def pairKind (h:Heap):KeyKind where
 α:=List Nat × List Nat
 blt:=pairLt
 irrefl a:=by
  rw [Bool.eq_false_iff]
  intro z
  rcases pairLt_iff.mp z with z | ⟨_,z⟩
  ·exact List.lt_irrefl _ z
  ·exact List.lt_irrefl _ z
 trans a b c h1 h2:=by
  rw [pairLt_iff] at *
  rcases h1 with h1 | ⟨h1,h1'⟩
  ·rcases h2 with h2 | ⟨h2,_⟩
   ·exact .inl (List.lt_trans h1 h2)
   ·exact .inl (h2 ▸ h1)
  ·rcases h2 with h2 | ⟨h2,h2'⟩
   ·exact .inl (h1 ▸ h2)
   ·exact .inr ⟨h1.trans h2,List.lt_trans h1' h2'⟩
 negTrans a b c h:=by
  rw [pairLt_iff] at h
  simp only [pairLt_iff]
  rcases h with h | ⟨h,h'⟩
  ·rcases tri a.1 b.1 with q | q | q
   ·exact .inl (.inl q)
   ·exact .inr (.inl (q ▸ h))
   ·exact .inr (.inl (List.lt_trans q h))
  ·rcases tri a.1 b.1 with q | q | q
   ·exact .inl (.inl q)
   ·rcases tri a.2 b.2 with r | r | r
    ·exact .inl (.inr ⟨q,r⟩)
    ·exact .inr (.inr ⟨q ▸ h,r ▸ h'⟩)
    ·exact .inr (.inr ⟨q ▸ h,List.lt_trans r h'⟩)
   ·exact .inr (.inl (h ▸ q))
 total a b h1 h2:=by
  rw [Bool.eq_false_iff] at h1 h2
  rcases tri a.1 b.1 with q | q | q
  ·exact absurd (pairLt_iff.mpr (.inl q)) h1
  ·rcases tri a.2 b.2 with r | r | r
   ·exact absurd (pairLt_iff.mpr (.inr ⟨q,r⟩)) h1
   ·exact Prod.ext q r
   ·exact absurd (pairLt_iff.mpr (.inr ⟨q.symm,r⟩)) h2
  ·exact absurd (pairLt_iff.mpr (.inl q)) h2
 keyOf:=pairOf h
 dflt:=([],[])
noncomputable def PairAt (h:Heap) (v:Value) (x y:Str):Prop:=∃ p o n t u,v = .ref p/\h.get? p = some o/\o.cls = .type "tuple"/\o.data = .seq #[.str x t,.str y u] n
theorem PairAt.key {h:Heap} {v:Value} {x y:Str} (z:PairAt h v x y):pairOf h v = some (x.cps.toList,y.cps.toList):=by
 refine o5_4 z fun p o n t u zq2 e c d=>?_
 try clear z
 subst zq2
 show (h.get? p).bind (fun o=>seqIf o.cls o.data) = _
 rw [e]
 show seqIf o.cls o.data = _
 rw [d,c]
 unfold seqIf
 exact (if_pos rfl).trans rfl
theorem two_of {l:List Value} {k:List Nat × List Nat} (e:twoStr l = some k):∃ x t y u,l = [.str x t,.str y u]:=by
 match l,e with
 | [.str x t,.str y u],_=>exact ⟨x,t,y,u,rfl⟩
theorem pair_of {h:Heap} {v:Value} {k:List Nat × List Nat} (e:pairOf h v = some k):∃ x y,PairAt h v x y:=by
 match v,e with
 | .ref p,e =>
  have e':(h.get? p).bind (fun o=>seqIf o.cls o.data) = some k:=e
  refine o1_2 (Option.bind_eq_some_iff.mp e') fun o ho es=>?_
  cases d:o.data with
  | seq xs n =>
   rw [d] at es
   have es':(if o.cls = .type "tuple" then twoStr xs.toList else none) = some k:=es
   by_cases c:o.cls = .type "tuple"
   ·rw [if_pos c] at es'
    refine o4_1 (two_of es') fun x t y u el=>?_
    refine ⟨x,y,p,o,n,t,u,rfl,ho,c,?_⟩
    rw [d]
    have:xs = #[.str x t,.str y u]:=by rw [<-Array.toList_inj,el]
    rw [this]
   ·rw [if_neg c] at es'; cases es'
  | _=>rw [d] at es; cases es
theorem pair_inv {h:Heap} {v:Value} {k:List Nat × List Nat} {x y:Str} (z:PairAt h v x y) (e:pairOf h v = some k):k = (x.cps.toList,y.cps.toList):=by
 rw [z.key] at e
 exact (Option.some.inj e).symm
theorem keys_pairs {a:Addr} {vs:List Value} {h0:Heap} (hv:∀ v ∈ vs,∃ x y,PairAt h0 v x y) (hk:∀ b o,h0.get? b = some o->b ≠ a/\s.heap.get? b = some o) :
  Keys prog w a s (pairKind h0) (tuples' true) vs:=by
 refine ⟨fun A s' hE=>⟨fun x y k l Q E hx hy q=>?_⟩,fun v hvm=>?_,fun h2 A E s' Q hE q=>?_⟩
 ·refine o2_1 (pair_of hx) fun x1 x2 zx=>?_
  refine o2_1 (pair_of hy) fun y1 y2 zy=>?_
  have ek:=pair_inv zx hx
  have el:=pair_inv zy hy
  subst ek el
  refine o5_4 zx fun px ox nx t1 u1 zq3 e1 _ d1=>?_
  try clear zx
  subst zq3
  refine o5_4 zy fun py oy ny t2 u2 zq4 e2 _ d2=>?_
  try clear zy
  subst zq4
  have f1:=hE _ _ (hk _ _ e1).1 (hk _ _ e1).2
  have f2:=hE _ _ (hk _ _ e2).1 (hk _ _ e2).2
  refine PySem.W.kat_lt f1 d1 f2 d2 ?_
  show PySem.W.KatLex prog w A true _ Q [(.str x1 t1,.str y1 t2),(.str x2 u1,.str y2 u2)] 0 s'
  refine PySem.W.kat_cons (wpAny_eqBool_str (PySem.W.kat_go (fun he=>?_) fun he=>?_))
  ·have he:x1 = y1:=by simpa using he
   refine PySem.W.kat_yes (PySem.W.kat_cons (wpAny_eqBool_str (PySem.W.kat_go (fun he2=>?_) fun he2=>?_)))
   ·have he2:x2 = y2:=by simpa using he2
    refine PySem.W.kat_yes (PySem.W.kat_nil ?_)
    have:pairLt (x1.cps.toList,x2.cps.toList) (y1.cps.toList,y2.cps.toList) = decide (2 < 2):=by
     rw [he,he2]
     exact (pairKind h0).irrefl (y1.cps.toList,y2.cps.toList)
    show Q (decide (2 < 2)) s'
    rw [<-this]
    exact q
   ·refine PySem.W.kat_no (PySem.W.kat_one _ _ (lt_str ?_))
    have:pairLt (x1.cps.toList,x2.cps.toList) (y1.cps.toList,y2.cps.toList) = decide (x2.cps.toList < y2.cps.toList):=by
     rw [he]
     unfold pairLt
     simp [List.lt_irrefl]
    show Q (decide (x2.cps.toList < y2.cps.toList)) s'
    rw [<-this]
    exact q
  ·have he:¬ x1 = y1:=by simpa using he
   refine PySem.W.kat_no (oneLt_str ?_)
   have hne:¬ x1.cps.toList = y1.cps.toList:=fun z=>he (by cases x1; cases y1; simp at z; simp [z])
   have:pairLt (x1.cps.toList,x2.cps.toList) (y1.cps.toList,y2.cps.toList) = decide (x1.cps.toList < y1.cps.toList):=by
    unfold pairLt
    simp [hne]
   rw [<-this]
   exact q
 ·refine o2_1 (hv v hvm) fun x y z=>?_
  exact ⟨_,z.key⟩
 ·have hT:∀ (us:List Value),(∀ v ∈ us,∃ x y,PairAt h0 v x y)->∃ fs,PySem.W.KatTups s'.heap us fs/\fs.length = us.length/\∀ v ∈ fs,∃ x t,v = .str x t:=by
   intro us
   induction us with
   | nil=>exact fun _=>⟨[],.nil,rfl,fun v hv=>by simp at hv⟩
   | cons v r ih =>
    intro hus
    obtain ⟨fs,g1,g2,g3⟩:=ih fun u hu=>hus u (List.mem_cons_of_mem _ hu)
    refine o7_4 (hus v (List.mem_cons_self ..)) fun x y p o n t u zq5 e c d=>?_
    subst zq5
    refine ⟨.str x t :: fs,.cons (hE _ _ (hk _ _ e).1 (hk _ _ e).2) c d rfl g1,by simp [g2],fun z hz=>?_⟩
    rcases List.mem_cons.mp hz with rfl | hz
    ·exact ⟨x,t,rfl⟩
    ·exact g3 z hz
  refine o1_3 (hT vs hv) fun fs g1 g2 g3=>?_
  refine PySem.W.kat_kind (T:=.type "str") g1 (by lia) (fun v hv=>?_) (by rfl) q
  refine o2_1 (g3 v hv) fun x t zq6=>?_
  subst zq6
  exact .now
end
end TS
set_option Elab.async false
namespace L2
open PySem PySem.Spec PyProof.Rows
noncomputable abbrev Key:=Sum Int Str
noncomputable def keyIs:Key->Value->Bool
 | .inl k,v=>Value.isInt k v
 | .inr x,v=>Value.isStrOf x v
noncomputable def keyH (w:World):Key->Int
 | .inl k=>hashInt k
 | .inr x=>hashStr w x
theorem keyIs_shape:∀ {k:Key} {v:Value},keyIs k v = true->(∃ i t,k = Sum.inl i/\v = Value.int i t)\/(∃ x t,k = Sum.inr x/\v = Value.str x t)
 | .inl i,v,h=>by
  obtain ⟨t,e⟩:=Value.isInt_shape (k:=i) (v:=v) h
  exact .inl ⟨i,t,rfl,e⟩
 | .inr x,v,h=>by
  obtain ⟨t,e⟩:=Value.isStrOf_shape (x:=x) (v:=v) h
  exact .inr ⟨x,t,rfl,e⟩
theorem keyIs_int (i:Int) (t:Tok):keyIs (.inl i) (.int i t) = true:=by simp [keyIs,Value.isInt]
theorem keyIs_str (x:Str) (t:Tok):keyIs (.inr x) (.str x t) = true:=by simp [keyIs,Value.isStrOf]
theorem key_ll (a b:Int):decide ((Sum.inl a:Key) = Sum.inl b) = (a == b):=by
 by_cases e:a = b
 ·subst e; simp
 ·have h:¬ (Sum.inl a:Key) = Sum.inl b:=fun q=>e (Sum.inl.inj q)
  rw [decide_eq_false h]
  exact (beq_eq_false_iff_ne.mpr e).symm
theorem key_rr (a b:Str):decide ((Sum.inr a:Key) = Sum.inr b) = decide (a = b):=by
 by_cases e:a = b
 ·subst e; simp
 ·have h:¬ (Sum.inr a:Key) = Sum.inr b:=fun q=>e (Sum.inr.inj q)
  rw [decide_eq_false h,decide_eq_false e]
theorem key_lr (a:Int) (b:Str):decide ((Sum.inl a:Key) = Sum.inr b) = false:=decide_eq_false (fun q=>nomatch q)
theorem key_rl (a:Str) (b:Int):decide ((Sum.inr a:Key) = Sum.inl b) = false:=decide_eq_false (fun q=>nomatch q)
noncomputable def mixKind (prog:Program) (w:World):PySem.KeyKind prog w Key where
 is:=keyIs
 hash:=keyH w
 inj:=fun v a b ha hb=>by
  rcases keyIs_shape ha with ⟨i,t,rfl,rfl⟩ | ⟨x,t,rfl,rfl⟩
  ·rcases keyIs_shape hb with ⟨j,u,rfl,e⟩ | ⟨y,u,rfl,e⟩
   ·injection e with e1 _; rw [e1]
   ·exact nomatch e
  ·rcases keyIs_shape hb with ⟨j,u,rfl,e⟩ | ⟨y,u,rfl,e⟩
   ·exact nomatch e
   ·injection e with e1 _; rw [e1]
 byValue:=fun k v h=>by
  rcases keyIs_shape h with ⟨i,t,rfl,rfl⟩ | ⟨x,t,rfl,rfl⟩ <;> rfl
 pyHash:=fun hv h=>by
  rcases keyIs_shape hv with ⟨i,t,rfl,rfl⟩ | ⟨x,t,rfl,rfl⟩
  ·exact wpAny_pyHash_int h
  ·exact wpAny_pyHash_str h
 eqBool:=fun hu hv h=>by
  rcases keyIs_shape hu with ⟨i,t,rfl,rfl⟩ | ⟨x,t,rfl,rfl⟩
  ·rcases keyIs_shape hv with ⟨j,u,rfl,rfl⟩ | ⟨y,u,rfl,rfl⟩
   ·rw [key_ll] at h; exact wpAny_eqBool_int h
   ·rw [key_lr] at h; exact SeqAt.EqAt.int_str i t y u _ _ _ _ h
  ·rcases keyIs_shape hv with ⟨j,u,rfl,rfl⟩ | ⟨y,u,rfl,rfl⟩
   ·rw [key_rl] at h; exact SeqAt.EqAt.str_int x t j u _ _ _ _ h
   ·rw [key_rr] at h; exact wpAny_eqBool_str h
 «strs»:=fun k x t v h=>by
  rcases keyIs_shape h with ⟨i,u,rfl,e⟩ | ⟨y,u,rfl,e⟩
  ·exact nomatch e
  ·injection e with e1 _
   subst e1
   cases v <;> rfl
theorem mixKind_int (prog:Program) (w:World) (i:Int) (t:Tok):(mixKind prog w).is (.inl i) (.int i t) = true:=keyIs_int i t
theorem mixKind_str (prog:Program) (w:World) (x:Str) (t:Tok):(mixKind prog w).is (.inr x) (.str x t) = true:=keyIs_str x t
end L2
namespace L2
open PySem PySem.Spec PyProof.Rows
inductive V where
 | non | bl (b:Bool) | int (i:Int) | str (x:Str) | byt (b:Array UInt8) | flt (b:UInt64) | ref (a:Addr) | ty (n:String)
 deriving DecidableEq
noncomputable def RelV:V->Value->Prop
 | .non,u=>u = Value.none
 | .bl b,u=>u = Value.bool b
 | .int i,u=>∃ t,u = Value.int i t
 | .str x,u=>∃ t,u = Value.str x t
 | .byt b,u=>∃ t,u = Value.bytes b t
 | .flt b,u=>∃ t,u = Value.float b t
 | .ref a,u=>u = Value.ref a
 | .ty n,u=>u = Value.type n
noncomputable abbrev Vals:List V->List Value->Prop:=Paired RelV
theorem Vals.length {xs:List V} {us:List Value} (r:Vals xs us):xs.length = us.length:=Paired.length r
theorem Vals.get:∀ {xs:List V} {us:List Value} {i:Nat} {x:V},Vals xs us->xs[i]? = some x->∃ u,us[i]? = some u/\RelV x u
 | _,_,_,_,.nil,e=>by simp at e
 | _,_,0,_,.cons r _,e=>by simp at e; subst e; exact ⟨_,rfl,r⟩
 | _,_,i + 1,x,.cons _ t,e=>by
  obtain ⟨u,h1,h2⟩:=Vals.get (i:=i) (x:=x) t (by simpa using e)
  exact ⟨u,by simpa using h1,h2⟩
theorem Vals.set {x:V} {u:Value} (r:RelV x u):∀ {xs:List V} {us:List Value} (i:Nat),Vals xs us->Vals (xs.set i x) (us.set i u)
 | _,_,_,.nil=>.nil
 | _,_,0,.cons _ t=>.cons r t
 | _,_,i + 1,.cons q t=>.cons q (Vals.set r i t)
theorem Vals.append:∀ {xs ys:List V} {us ws:List Value},Vals xs us->Vals ys ws->Vals (xs ++ ys) (us ++ ws)
 | _,_,_,_,.nil,s=>s
 | _,_,_,_,.cons r t,s=>.cons r (Vals.append t s)
theorem Vals.take:∀ {xs:List V} {us:List Value} (n:Nat),Vals xs us->Vals (xs.take n) (us.take n)
 | _,_,0,_=>.nil
 | _,_,_ + 1,.nil=>.nil
 | _,_,n + 1,.cons r t=>.cons r (Vals.take n t)
theorem Vals.drop:∀ {xs:List V} {us:List Value} (n:Nat),Vals xs us->Vals (xs.drop n) (us.drop n)
 | _,_,0,r=>r
 | _,_,_ + 1,.nil=>.nil
 | _,_,n + 1,.cons _ t=>Vals.drop n t
noncomputable def RelO:Option V->Option Value->Prop
 | some v,some u=>RelV v u
 | none,none=>True
 | _,_=>False
noncomputable def KV {κ:Type}:List (κ × V)->List (κ × Value)->Prop:=Paired fun (p:κ × V) (q:κ × Value)=>p.1 = q.1/\RelV p.2 q.2
noncomputable def kV:Key->V
 | .inl i=>.int i
 | .inr x=>.str x
inductive HO where
 | lst (xs:List V)
 | tup (xs:List V)
 | dK (kvs:List (Key × V)) | dT (kvs:List (List Key × V))
 | set (S:Int->Bool) (n:Nat)
 | ins (C dx:Addr) (fs:List (Str × V))
 | own (x:Addr)
 | xd (fs:List (Str × V))
 | met (f x:Addr)
 | rng (lo hi:Int)
 | frz (o:Obj) (u:HO)
 | tbl (ps:Array Value)
 | ext (φ:Heap->Prop)
set_option genInjectivity false
noncomputable abbrev Hp:=Addr->Option HO
noncomputable def upd (H:Hp) (a:Addr) (o:HO):Hp:=fun b=>if b = a then some o else H b
theorem upd_same {H:Hp} {a:Addr} {o:HO}:upd H a o a = some o:=by unfold upd; rw [if_pos rfl]
theorem upd_ne {H:Hp} {a b:Addr} {o:HO} (h:b ≠ a):upd H a o b = H b:=by unfold upd; rw [if_neg h]
theorem ne_of {H:Hp} {a b:Addr} {o u:HO} (h:H a = some o) (h':H b = some u) (d:o ≠ u):a ≠ b:=by
 intro e; subst e; rw [h] at h'; exact d (Option.some.inj h')
theorem ne_of_none {H:Hp} {a b:Addr} {o:HO} (h:H a = some o) (h':H b = none):a ≠ b:=by
 intro e; subst e; rw [h] at h'; cases h'
section
variable (P:Program) (w:World)
noncomputable def ObjOk (H:Hp) (h:Heap) (a:Addr):HO->Prop
 | .lst xs=>xs.length<=sizeLine/\∃ (its:List Value) (n:Nat),Vals xs its/\h.get? a = some { cls:=.type "list",data:=.seq its.toArray n }
 | .tup xs=>xs.length<=sizeLine/\∃ its:List Value,Vals xs its/\IsTup h a its.toArray
 | .dK kvs=>kvs.length<=sizeLine/\(a == sysModules) = false/\∃ vs,KV kvs vs/\h.DictOf (mixKind P w) a vs
 | .dT kvs=>kvs.length<=sizeLine/\(a == sysModules) = false/\∃ xs:List (List Key × Addr × Value),
   Paired (fun (p:List Key × V) (q:List Key × Addr × Value)=>p.1 = q.1/\H q.2.1 = some (.tup (p.1.map kV))/\RelV p.2 q.2.2) kvs xs /\
   ∃ o es ep,h.get? a = some o/\o.ExactDict/\o.data = .dict es ep/\es.toList = xs.map (entryOfKey (tupleKind (mixKind P w)))/\(xs.map (·.1)).Nodup
 | .set S n=>h.SetOf (intKind P w) a S n
 | .ins C dx fs=>H dx = some (.own a)/\fs.length<=1000/\dx ≠ a/\h.get? a = some (PySem.W.instObj C dx) /\
   ∃ mA,h.Ns1 dx mA/\(∀ f,RelO (fs.lookup f) (mA f))/\PySem.Within mA (fs.map (·.1))
 | .own _=>∃ o,h.get? a = some o
 | .xd fs=>∃ mA,h.Ns1 a mA/\∀ f,RelO (fs.lookup f) (mA f)
 | .rng lo hi=>∃ t u v,h.get? a = some { cls:=.type "range",data:=.fields #[.int lo t,.int hi u,.int 1 v] }
 | .frz o u=>h.get? a = some o/\ObjOk H h a u
 | .tbl ps=>h.get? a = some { cls:=.none,data:=.fields ps }
 | .met f x=>h.get? a = some (PySem.W.methodObj (.ref f) (.ref x))
 | .ext φ=>φ h/\(∃ o,h.get? a = some o)/\∀ h1 h2:Heap,φ h1->(∀ o,h1.get? a = some o->h2.get? a = some o)->φ h2
noncomputable def HOk (H:Hp) (h:Heap):Prop:=∀ a o,H a = some o->ObjOk P w H h a o
end
section
variable {P:Program} {w:World} {H H':Hp} {h h':Heap} {a:Addr} {o:HO}
theorem ObjOk.lt (x:ObjOk P w H h a o):a < h.objs.size:=by
 cases o with
 | lst xs=>obtain ⟨_,_,_,_,e⟩:=x; exact Heap.lt_size e
 | tup xs=>obtain ⟨_,_,_,p⟩:=x; exact p.lt
 | dK kvs=>obtain ⟨_,_,_,_,o,_,_,e,_⟩:=x; exact Heap.lt_size e
 | dT kvs=>obtain ⟨_,_,_,_,o,_,_,e,_⟩:=x; exact Heap.lt_size e
 | set S n=>obtain ⟨o,_,_,_,e,_⟩:=x; exact Heap.lt_size e
 | ins C dx fs=>obtain ⟨_,_,_,e,_⟩:=x; exact Heap.lt_size e
 | own y=>obtain ⟨_,e⟩:=x; exact Heap.lt_size e
 | xd fs=>obtain ⟨_,⟨_,_,_,e,_⟩,_⟩:=x; exact Heap.lt_size e
 | rng lo hi=>obtain ⟨_,_,_,e⟩:=x; exact Heap.lt_size e
 | frz ob u=>obtain ⟨e,_⟩:=x; exact Heap.lt_size e
 | tbl ps=>exact Heap.lt_size (show h.get? a = some _ from x)
 | met f y=>exact Heap.lt_size (show h.get? a = some _ from x)
 | ext φ=>obtain ⟨_,⟨_,e⟩,_⟩:=x; exact Heap.lt_size e
theorem Paired.mapP {α β:Type} {F G:α->β->Prop}:∀ {l₁:List α} {l₂:List β},Paired F l₁ l₂->(∀ a b,F a b->G a b)->Paired G l₁ l₂
 | _,_,.nil,_=>.nil
 | _,_,.cons r t,f=>.cons (f _ _ r) (Paired.mapP t f)
theorem ObjOk.stay (x:ObjOk P w H h a o) (k:∀ b u,(b = a\/H b = some (.own a))->h.get? b = some u->h'.get? b = some u)
  (ho:∀ b,H b = some (.own a)->H' b = some (.own a)) (ht:∀ b xs,H b = some (.tup xs)->H' b = some (.tup xs)):ObjOk P w H' h' a o:=by
 induction o with
 | lst xs=>obtain ⟨z,its,n,r,e⟩:=x; exact ⟨z,its,n,r,k _ _ (.inl rfl) e⟩
 | tup xs=>obtain ⟨z,its,r,ob,e,c⟩:=x; exact ⟨z,its,r,ob,k _ _ (.inl rfl) e,c⟩
 | dK kvs=>obtain ⟨z,y,vs,r,ob,es,ep,e,c⟩:=x; exact ⟨z,y,vs,r,ob,es,ep,k _ _ (.inl rfl) e,c⟩
 | dT kvs =>
  obtain ⟨z,y,xs,r,ob,es,ep,e,c⟩:=x
  exact ⟨z,y,xs,Paired.mapP r fun p q z=>⟨z.1,ht _ _ z.2.1,z.2.2⟩,ob,es,ep,k _ _ (.inl rfl) e,c⟩
 | set S n=>obtain ⟨ob,es,ep,t,e,c⟩:=x; exact ⟨ob,es,ep,t,k _ _ (.inl rfl) e,c⟩
 | ins C dx fs =>
  obtain ⟨d,z,ne,e,mA,zq1,r⟩:=x
  refine o3_2 zq1 fun od es ep e2 c=>?_
  exact ⟨ho _ d,z,ne,k _ _ (.inl rfl) e,mA,⟨od,es,ep,k _ _ (.inr d) e2,c⟩,r⟩
 | own y=>obtain ⟨ob,e⟩:=x; exact ⟨ob,k _ _ (.inl rfl) e⟩
 | xd fs=>obtain ⟨mA,⟨od,es,ep,e,c⟩,r⟩:=x; exact ⟨mA,⟨od,es,ep,k _ _ (.inl rfl) e,c⟩,r⟩
 | rng lo hi=>obtain ⟨t,u,v,e⟩:=x; exact ⟨t,u,v,k _ _ (.inl rfl) e⟩
 | frz ob u ih=>obtain ⟨e,q⟩:=x; exact ⟨k _ _ (.inl rfl) e,ih q⟩
 | tbl ps =>
  have e:h.get? a = some { cls:=.none,data:=.fields ps }:=x
  show h'.get? a = some { cls:=.none,data:=.fields ps }
  exact k a _ (.inl rfl) e
 | met f y =>
  have e:h.get? a = some (PySem.W.methodObj (.ref f) (.ref y)):=x
  show h'.get? a = some (PySem.W.methodObj (.ref f) (.ref y))
  exact k a _ (.inl rfl) e
 | ext φ=>obtain ⟨p,⟨o,e⟩,st⟩:=x; exact ⟨st _ _ p fun o q=>k _ _ (.inl rfl) q,⟨o,k _ _ (.inl rfl) e⟩,st⟩
theorem HOk.lt (x:HOk P w H h) (e:H a = some o):a < h.objs.size:=(x a o e).lt
theorem HOk.fresh (x:HOk P w H h) (e:h.objs.size<=a):H a = none:=by
 cases q:H a with
 | none=>rfl
 | some u=>exact absurd (Nat.lt_of_lt_of_le (x.lt q) e) (Nat.lt_irrefl _)
theorem HOk.kept (x:HOk P w H h) (k:∀ b u,h.get? b = some u->h'.get? b = some u):HOk P w H h':=fun a o e =>
 (x a o e).stay (fun b u _ q=>k b u q) (fun _ q=>q) fun _ _ q=>q
theorem HOk.laid (x:HOk P w H h) (k:∀ b u,h.get? b = some u->h'.get? b = some u) (hp:h.objs.size<=a) (new:ObjOk P w (upd H a o) h' a o):HOk P w (upd H a o) h':=fun b u e=>by
 have hn:=x.fresh hp
 by_cases hb:b = a
 ·subst hb; rw [upd_same] at e; cases e; exact new
 ·rw [upd_ne hb] at e
  exact (x b u e).stay (fun c v _ q=>k c v q) (fun c q=>by rw [upd_ne (ne_of_none q hn)]; exact q) fun c xs q=>by rw [upd_ne (ne_of_none q hn)]; exact q
end
noncomputable def Rd (H:Hp) (a:Addr) (u:HO):Prop:=H a = some u\/∃ o,H a = some (.frz o u)
theorem Rd.ok {P:Program} {w:World} {H:Hp} {h:Heap} {a:Addr} {u:HO} (r:Rd H a u) (x:HOk P w H h):ObjOk P w H h a u:=by
 rcases r with r | ⟨o,r⟩
 ·exact x a u r
 ·refine o0_2 (x a _ r) fun _ q=>?_
  exact q
noncomputable def Mut:Option HO->Prop
 | some (.lst _)=>True
 | some (.dK _)=>True
 | some (.dT _)=>True
 | some (.set _ _)=>True
 | some (.ins _ _ _)=>True
 | some (.ext _)=>True
 | _=>False
section
variable {P:Program} {w:World} {H:Hp} {h h':Heap} {x e:Addr} {o':HO}
theorem HOk.write (ok:HOk P w H h) (mu:Mut (H x)) (he:e = x\/H e = some (.own x)) (k:∀ b u,b ≠ e->h.get? b = some u->h'.get? b = some u) (heo:∃ u,h'.get? e = some u)
  (new:ObjOk P w (upd H x o') h' x o'):HOk P w (upd H x o') h':=fun b u q=>by
 have nown:∀ c y,H c = some (.own y)->c ≠ x:=fun c y r z=>by subst z; rw [r] at mu; exact mu
 have ntup:∀ c xs,H c = some (.tup xs)->c ≠ x:=fun c xs r z=>by subst z; rw [r] at mu; exact mu
 by_cases hb:b = x
 ·subst hb; rw [upd_same] at q; cases q; exact new
 ·rw [upd_ne hb] at q
  by_cases hbe:b = e
  ·have q':H b = some (.own x):=by
    rcases he with z | z
    ·exact absurd (hbe.trans z) hb
    ·rw [hbe]; exact z
   rw [q] at q'; cases q'
   refine o1_1 heo fun v hv=>?_
   try clear heo
   exact ⟨v,by rw [hbe]; exact hv⟩
  ·refine (ok b u q).stay (fun c v hc r=>k c v ?_ r) (fun c r=>by rw [upd_ne (nown c b r)]; exact r) fun c xs r=>by rw [upd_ne (ntup c xs r)]; exact r
   rcases hc with rfl | hc
   ·exact hbe
   ·rintro rfl
    rcases he with z | z
    ·exact nown c b hc z
    ·rw [hc] at z; cases z; exact hb rfl
end
structure Un (fs ex:List Addr) (H H':Hp) (h h':Heap):Prop where
 keep:∀ b o,h.get? b = some o->H b = none->b ∉ fs->b ∉ ex->h'.get? b = some o
 slot:∀ b o,h.get? b = some o->H b = none->b ∈ fs->b ∉ ex->∃ sl,h'.get? b = some { o with slots:=sl }
 free:∀ b o,h.get? b = some o->H b = none->b ∉ ex->H' b = none
 there:∀ b o,h.get? b = some o->b ∉ ex->∃ o',h'.get? b = some o'
 tups:∀ b xs,H b = some (.tup xs)->H' b = some (.tup xs)
 frzs:∀ b o u,H b = some (.frz o u)->H' b = some (.frz o u)
 tbls:∀ b ps,H b = some (.tbl ps)->∃ more,H' b = some (.tbl (ps ++ more))
section
variable {fs fs' ex ex':List Addr} {H H1 H2:Hp} {h h1 h2 h':Heap} {a x e:Addr} {o:HO}
theorem Un.any (u:Un fs ex H H1 h h1) {b:Addr} {ob:Obj} (q:h.get? b = some ob) (n:H b = none) (hx:b ∉ ex):∃ sl,h1.get? b = some { ob with slots:=sl }:=by
 by_cases hb:b ∈ fs
 ·exact u.slot b ob q n hb hx
 ·exact ⟨ob.slots,u.keep b ob q n hb hx⟩
theorem Un.kept (k:∀ b u,h.get? b = some u->h'.get? b = some u):Un fs ex H H h h' :=
 ⟨fun b ob q _ _ _=>k b ob q,fun b ob q _ _ _=>⟨ob.slots,k b ob q⟩,fun _ _ _ n _=>n,fun b ob q _=>⟨ob,k b ob q⟩,fun _ _ q=>q,fun _ _ _ q=>q,fun _ ps q=>⟨#[],by rw [q]; simp⟩⟩
theorem Un.refl:Un fs ex H H h h:=Un.kept fun _ _ q=>q
theorem Un.laid (k:∀ b u,h.get? b = some u->h'.get? b = some u) (hp:h.objs.size<=a) (hn:H a = none):Un fs ex H (upd H a o) h h' where
 keep:=fun b u q _ _ _=>k b u q
 slot:=fun b u q _ _ _=>⟨u.slots,k b u q⟩
 free:=fun b u q n _=>by rw [upd_ne (Nat.ne_of_lt (Nat.lt_of_lt_of_le (Heap.lt_size q) hp))]; exact n
 there:=fun b u q _=>⟨u,k b u q⟩
 tups:=fun b xs q=>by rw [upd_ne (ne_of_none q hn)]; exact q
 frzs:=fun b u xs q=>by rw [upd_ne (ne_of_none q hn)]; exact q
 tbls:=fun b ps q=>⟨#[],by rw [upd_ne (ne_of_none q hn),q]; simp⟩
theorem Un.write (mu:Mut (H x)) (he:e = x\/H e = some (.own x)) (k:∀ b u,b ≠ e->h.get? b = some u->h'.get? b = some u) (heo:∃ u,h'.get? e = some u):Un fs ex H (upd H x o) h h':=by
 have hx:∀ b,H b = none->b ≠ x:=fun b n z=>by subst z; rw [n] at mu; exact mu
 have hb:∀ b,H b = none->b ≠ e:=fun b n z=>by
  subst z
  rcases he with r | r
  ·exact hx b n r
  ·rw [n] at r; cases r
 have hm:∀ b u,H b = some u->¬ Mut (some u)->b ≠ x:=fun b u q nm z=>by subst z; rw [q] at mu; exact nm mu
 refine ⟨fun b u q n _ _=>k b u (hb b n) q,fun b u q n _ _=>⟨u.slots,k b u (hb b n) q⟩,fun b u q n _=>by rw [upd_ne (hx b n)]; exact n,fun b u q _=>?_,
  fun b xs q=>by rw [upd_ne (hm b _ q fun z=>z)]; exact q,fun b u xs q=>by rw [upd_ne (hm b _ q fun z=>z)]; exact q,fun b ps q=>⟨#[],by rw [upd_ne (hm b _ q fun z=>z),q]; simp⟩⟩
 by_cases hbe:b = e
 ·subst hbe; exact heo
 ·exact ⟨u,k b u hbe q⟩
end
noncomputable def trk (h:Heap) (H:Hp):List Addr:=(List.range h.objs.size).filter fun a=>(H a).isSome
noncomputable def hidT (h:Heap) (H:Hp):Heap:=PySem.W.hideAll h (trk h H)
theorem hidT_size (h:Heap) (H:Hp):(hidT h H).objs.size = h.objs.size:=PySem.W.hideAll_size _ _
theorem hidT_get {h:Heap} {H:Hp} {b:Addr} {o:Obj} (e:h.get? b = some o) (n:H b = none):(hidT h H).get? b = some o :=
 PySem.W.hideAll_get _ e fun hm=>by
  have q:(H b).isSome = true:=(List.mem_filter.mp hm).2
  rw [n] at q; simp at q
theorem of_hidT {h:Heap} {H:Hp} {b:Addr} {o:Obj} (e:(hidT h H).get? b = some o):h.get? b = some o/\H b = none:=by
 have e':h.get? b = some o:=PySem.W.of_hideAll (trk h H) e
 refine ⟨e',?_⟩
 cases q:H b with
 | none=>rfl
 | some x =>
  have hm:b ∈ trk h H:=List.mem_filter.mpr ⟨List.mem_range.mpr (Heap.lt_size e'),by simp [q]⟩
  have z:(hidT h H).get? b = none:=PySem.W.hideAll_none (trk h H) hm
  rw [z] at e; cases e
end L2
namespace L2
open PySem PySem.Spec PyProof.Rows
structure Mod (K:PySem.W.Frag) (mg:Str->Option Value) (base:Heap):Prop where
 kin:K.In base
 glob:base.Ns mainGlobals mg
 blt:∃ mb,base.Ns builtinsNs mb/\∀ x:Str,x ≠ "__name__"->mb x = bootBuiltins x
 nolimit:base.NoLimit
structure Cx where
 prog:Program
 w:World
 K:PySem.W.Frag
 mg:Str->Option Value
 base:Heap
 A:Around
 N:List Str
 s₀:Shared
 H₀:Hp
 env:Env
 outer:List Env
 stack:List Env
 ex:List Addr
 fn:Str->Bool
 calm:Bool
 pn:List (Addr × Obj)
 xe:Value->Shared->Prop
noncomputable def frs (l:List Env):List Addr:=l.filterMap (·.frame)
noncomputable abbrev Cx.fs (X:Cx):List Addr:=frs X.outer
noncomputable def Vis (sc:Scope) (x:Str):Prop:=sc.names.lookup x = some .local\/sc.names.lookup x = some .cell\/sc.names.lookup x = some .free
noncomputable def Loc (sc:Scope) (x:Str):Prop:=sc.names.lookup x = some .local\/sc.names.lookup x = some .cell
noncomputable def Look (env:Env) (h:Heap) (m:Str->Option Value) (x:Str) (u:Value):Prop :=
 (env.kindOf x = some .local/\m x = some u)\/((env.kindOf x = some .cell\/env.kindOf x = some .free)/\∃ c,env.cells.lookup x = some c/\h.IsCell c (some u))
structure Cx.Ok (X:Cx):Prop where
 mod:Mod X.K X.mg X.base
 kind:X.env.scope.kind = .function
 glob:X.env.globals = mainGlobals
 blt:X.env.builtins = builtinsNs
 above:X.s₀.heap.objs.size<=X.env.locals
 inj:∀ x y c,X.env.cells.lookup x = some c->X.env.cells.lookup y = some c->x = y
 has:∀ x,(X.env.kindOf x = some .cell\/X.env.kindOf x = some .free)->∃ c,X.env.cells.lookup x = some c
 cab:∀ x c,X.fn x = true->X.env.cells.lookup x = some c->X.s₀.heap.objs.size<=c
 hd:X.calm = true->X.A.handled = none
 frames:X.A.frames = some X.stack
 stk:X.stack = X.outer\/(X.stack = X.env :: X.outer/\X.env.frame = some X.env.locals)
 exf:∀ b ∈ X.ex,b ≠ X.env.locals/\∀ x c,X.env.cells.lookup x = some c->c ≠ b
 bs:∀ b o,X.base.get? b = some o->X.s₀.heap.get? b = some o/\X.H₀ b = none
 bsz:X.base.objs.size<=X.s₀.heap.objs.size
 noex:∀ b o,X.base.get? b = some o->b ∉ X.ex
 exfs:∀ b ∈ X.ex,b ∉ X.fs
 funs:X.s₀.heap.FunFrames X.base X.outer
 frf:∀ b ∈ X.fs,X.H₀ b = none
structure Inv (X:Cx) (pins:List (Addr × Obj)) (σ:List (Option V)) (H:Hp) (s:Shared):Prop where
 ok:X.Ok
 os:s.os = X.s₀.os
 bare:AllBare s.gens
 base:Un X.fs X.ex X.H₀ H X.s₀.heap s.heap
 loc:∃ m,s.heap.Ns X.env.locals m/\∀ (i:Nat) (x:Str) (v:V),X.N[i]? = some x->σ[i]? = some (some v)->Vis X.env.scope x->∃ u,RelV v u/\Look X.env s.heap m x u
 cell:∀ x c,X.env.cells.lookup x = some c->∃ v,s.heap.IsCell c v
 free:H X.env.locals = none
 freeC:∀ x c,X.env.cells.lookup x = some c->H c = none
 pin:∀ p ∈ X.pn ++ pins,s.heap.get? p.1 = some p.2/\H p.1 = none/\p.1 ≠ X.env.locals/\p.1 ∉ X.fs/\∀ v,p.2.data ≠ .cell v
 hok:HOk X.prog X.w H s.heap
 len:σ.length = X.N.length
section
variable {X:Cx} {pins:List (Addr × Obj)} {σ:List (Option V)} {H H':Hp} {s:Shared} {h':Heap}
theorem Cx.Ok.nofr (ok:X.Ok) {b:Addr} {o:Obj} (e:X.base.get? b = some o):b ∉ X.fs:=fun hb=>by
 have:=(ok.funs.mem hb).1
 rw [e] at this; cases this
theorem Inv.bs (I:Inv X pins σ H s):∀ b o,X.base.get? b = some o->s.heap.get? b = some o/\H b = none:=fun b o e =>
 ⟨I.base.keep b o (I.ok.bs b o e).1 (I.ok.bs b o e).2 (I.ok.nofr e) (I.ok.noex b o e),I.base.free b o (I.ok.bs b o e).1 (I.ok.bs b o e).2 (I.ok.noex b o e)⟩
theorem Inv.bk (I:Inv X pins σ H s):∀ b o,X.base.get? b = some o->s.heap.get? b = some o:=fun b o e=>(I.bs b o e).1
theorem Inv.mod (I:Inv X pins σ H s):Mod X.K X.mg X.base:=I.ok.mod
theorem Inv.kIn (I:Inv X pins σ H s):X.K.In s.heap:=I.ok.mod.kin.keeps I.bk
theorem Inv.lt (I:Inv X pins σ H s):X.env.locals < s.heap.objs.size:=let ⟨_,hn,_⟩:=I.loc; hn.lt
theorem Inv.sz (I:Inv X pins σ H s):X.s₀.heap.objs.size<=s.heap.objs.size:=Nat.le_trans I.ok.above (Nat.le_of_lt I.lt)
theorem Inv.nofs (I:Inv X pins σ H s) {a:Addr} (h:s.heap.objs.size<=a):a ∉ X.fs:=fun hb=>by
 obtain ⟨_,o,ho,_⟩:=I.ok.funs.mem hb
 exact absurd (Nat.lt_of_lt_of_le (Heap.lt_size ho) (Nat.le_trans I.sz h)) (Nat.lt_irrefl _)
theorem Inv.cne (I:Inv X pins σ H s):∀ x c,X.env.cells.lookup x = some c->c ≠ X.env.locals:=fun x c e z=>by
 refine o2_2 (I.cell x c e) fun v o ho hd=>?_
 refine o1_2 I.loc fun m zq2 _=>?_
 refine o3_3 zq2 fun o' es ep ho' hd' _=>?_
 rw [z,ho'] at ho; cases ho; rw [hd'] at hd; cases hd
theorem Inv.funs (I:Inv X pins σ H s):s.heap.FunFrames X.base X.outer:=by
 have all:∀ (l:List Env),(∀ b ∈ frs l,b ∈ X.fs)->X.s₀.heap.FunFrames X.base l->s.heap.FunFrames X.base l:=by
  intro l
  induction l with
  | nil=>intro _ _; trivial
  | cons env r ih =>
   intro hs hl
   refine o0_3 hl fun hk zq3 hr=>?_
   try clear hl
   refine o2_4 zq3 fun L o hf hn ho hd=>?_
   have hL:L ∈ X.fs:=hs L (by unfold frs; rw [List.filterMap_cons,hf]; exact List.mem_cons_self)
   obtain ⟨sl,e⟩:=I.base.slot L o ho (I.ok.frf L hL) hL fun z=>I.ok.exfs L z hL
   exact ⟨hk,⟨L,_,hf,hn,e,hd⟩,ih (fun b hb=>hs b (by unfold frs; rw [List.filterMap_cons,hf]; exact List.mem_cons_of_mem _ hb)) hr⟩
 exact all X.outer (fun _ hb=>hb) I.ok.funs
theorem Inv.stack (I:Inv X pins σ H s):s.heap.FunFrames X.base X.stack:=by
 rcases I.ok.stk with e | ⟨e,hf⟩
 ·rw [e]; exact I.funs
 ·rw [e]
  refine o1_2 I.loc fun m hn _=>?_
  refine .cons (by rw [I.ok.kind]; decide) hf hn ?_ I.funs
  exact Heap.get?_none_of_le (Nat.le_trans I.ok.bsz I.ok.above)
theorem Inv.stkSub (I:Inv X pins σ H s):∀ b ∈ frs X.stack,b ∈ X.env.locals :: X.fs:=fun b hb=>by
 rcases I.ok.stk with e | ⟨e,hf⟩
 ·rw [e] at hb; exact List.mem_cons_of_mem _ hb
 ·rw [e] at hb
  unfold frs at hb
  rw [List.filterMap_cons,hf] at hb
  exact hb
theorem Inv.stkFree (I:Inv X pins σ H s):∀ b ∈ frs X.stack,H b = none:=fun b hb=>by
 rcases List.mem_cons.mp (I.stkSub b hb) with e | hb
 ·rw [e]; exact I.free
 ·obtain ⟨_,o,ho,_⟩:=I.ok.funs.mem hb
  exact I.base.free b o ho (I.ok.frf b hb) fun z=>I.ok.exfs b z hb
theorem Inv.step {g':Array GenState} {t':Nat} {d':Drawn} {ch:List Addr} (I:Inv X pins σ H s)
  (hch:∀ b ∈ ch,(b ∈ X.ex\/X.s₀.heap.objs.size<=b)/\b ≠ X.env.locals/\(∀ x c,X.env.cells.lookup x = some c->c ≠ b)/\∀ p ∈ X.pn ++ pins,p.1 ≠ b)
  (keep:∀ b o,b ≠ X.env.locals->b ∉ X.fs->b ∉ ch->s.heap.get? b = some o->H b = none->h'.get? b = some o)
  (slot:∀ b o,b ≠ X.env.locals->b ∈ X.fs->b ∉ ch->s.heap.get? b = some o->H b = none->∃ sl,h'.get? b = some { o with slots:=sl }) (free:∀ b o,b ∉ ch->s.heap.get? b = some o->H b = none->H' b = none)
  (there:∀ b o,b ∉ ch->s.heap.get? b = some o->∃ o',h'.get? b = some o')
  (tups:∀ b xs,H b = some (.tup xs)->H' b = some (.tup xs)) (frzs:∀ b o u,H b = some (.frz o u)->H' b = some (.frz o u)) (tbls:∀ b ps,H b = some (.tbl ps)->∃ more,H' b = some (.tbl (ps ++ more)))
  (ns:∀ m,s.heap.Ns X.env.locals m->h'.Ns X.env.locals m) (hok:HOk X.prog X.w H' h') (hg:AllBare g') :
  Inv X pins σ H' { s with heap:=h',gens:=g',drawn:=d',toks:=t' }:=by
 have neL:∀ b o,X.s₀.heap.get? b = some o->b ≠ X.env.locals:=fun b o e=>Nat.ne_of_lt (Nat.lt_of_lt_of_le (Heap.lt_size e) I.ok.above)
 have neC:∀ b o,X.s₀.heap.get? b = some o->b ∉ X.ex->b ∉ ch:=fun b o e hx hb=>by
  rcases (hch b hb).1 with z | z
  ·exact hx z
  ·exact absurd (Nat.lt_of_lt_of_le (Heap.lt_size e) z) (Nat.lt_irrefl _)
 have cellK:∀ x c,X.env.cells.lookup x = some c->∀ v,s.heap.IsCell c v->h'.IsCell c v:=fun x c e v ⟨o,ho,hd⟩=>by
  have nch:c ∉ ch:=fun z=>(hch c z).2.2.1 x c e rfl
  by_cases hc:c ∈ X.fs
  ·refine o1_1 (slot c o (I.cne x c e) hc nch ho (I.freeC x c e)) fun sl q=>?_
   exact ⟨_,q,hd⟩
  ·exact ⟨o,keep c o (I.cne x c e) hc nch ho (I.freeC x c e),hd⟩
 refine ⟨I.ok,I.os,hg,⟨fun b o e n hb hx=>?_,fun b o e n hb hx=>?_,fun b o e n hx=>?_,fun b o e hx=>?_,fun b xs e=>tups b xs (I.base.tups b xs e),fun b o xs e=>frzs b o xs (I.base.frzs b o xs e),fun b ps e=>?_⟩,?_,fun x c e=>?_,?_,fun x c e=>?_,fun p hp=>?_,hok,I.len⟩
 ·exact keep b o (neL b o e) hb (neC b o e hx) (I.base.keep b o e n hb hx) (I.base.free b o e n hx)
 ·refine o1_1 (I.base.slot b o e n hb hx) fun sl e1=>?_
  refine o1_1 (slot b _ (neL b o e) hb (neC b o e hx) e1 (I.base.free b o e n hx)) fun sl' e2=>?_
  exact ⟨sl',e2⟩
 ·refine o1_1 (I.base.there b o e hx) fun o' e1=>?_
  exact free b o' (neC b o e hx) e1 (I.base.free b o e n hx)
 ·refine o1_1 (I.base.there b o e hx) fun o' e1=>?_
  exact there b o' (neC b o e hx) e1
 ·refine o1_1 (I.base.tbls b ps e) fun m1 e1=>?_
  refine o1_1 (tbls b _ e1) fun m2 e2=>?_
  exact ⟨m1 ++ m2,by rw [e2,Array.append_assoc]⟩
 ·refine o1_2 I.loc fun m hn hl=>?_
  refine ⟨m,ns m hn,fun i x v e1 e2 e3=>?_⟩
  refine o1_2 (hl i x v e1 e2 e3) fun u r l=>?_
  refine ⟨u,r,?_⟩
  rcases l with l | ⟨k,c,e,z⟩
  ·exact .inl l
  ·exact .inr ⟨k,c,e,cellK x c e _ z⟩
 ·refine o1_1 (I.cell x c e) fun v z=>?_
  exact ⟨v,cellK x c e v z⟩
 ·refine o1_2 I.loc fun m zq4 _=>?_
  refine o3_2 zq4 fun o _ _ ho _=>?_
  exact free _ o (fun z=>(hch _ z).2.1 rfl) ho I.free
 ·refine o2_2 (I.cell x c e) fun v o ho hd=>?_
  exact free c o (fun z=>(hch c z).2.2.1 x c e rfl) ho (I.freeC x c e)
 ·refine o0_5 (I.pin p hp) fun e n ne nf d=>?_
  have nch:p.1 ∉ ch:=fun z=>(hch p.1 z).2.2.2 p hp rfl
  exact ⟨keep p.1 p.2 ne nf nch e n,free p.1 p.2 nch e n,ne,nf,d⟩
theorem Inv.un {t':Nat} (I:Inv X pins σ H s) (u:Un X.fs [] H H' s.heap h') (hok:HOk X.prog X.w H' h'):Inv X pins σ H' { s with heap:=h',toks:=t' }:=by
 refine o1_2 (id I.loc) fun m zq5 _=>?_
 refine o3_2 zq5 fun o es ep ho r=>?_
 refine o1_1 (u.any ho I.free (by simp)) fun sl hL=>?_
 exact I.step (g':=s.gens) (d':=s.drawn) (ch:=[]) (fun _ z=>nomatch z) (fun b o _ hb _ e n=>u.keep b o e n hb (by simp)) (fun b o _ hb _ e n=>u.slot b o e n hb (by simp)) (fun b o _ e n=>u.free b o e n (by simp)) (fun b o _ e=>u.there b o e (by simp)) u.tups u.frzs u.tbls (fun m' hm=>by
  refine o3_2 hm fun o' es' ep' ho' r'=>?_
  try clear hm
  rw [ho] at ho'; cases ho'
  exact ⟨_,es',ep',hL,r'⟩) hok I.bare
theorem Inv.call {g':Array GenState} {t':Nat} {d':Drawn} {ch:List Addr} (I:Inv X pins σ H s) (u:Un (frs X.stack) ch H H' s.heap h') (hok:HOk X.prog X.w H' h') (hg:AllBare g')
  (hch:∀ b ∈ ch,(b ∈ X.ex\/X.s₀.heap.objs.size<=b)/\b ≠ X.env.locals/\(∀ x c,X.env.cells.lookup x = some c->c ≠ b)/\∀ p ∈ X.pn ++ pins,p.1 ≠ b) :
  Inv X pins σ H' { s with heap:=h',gens:=g',drawn:=d',toks:=t' }:=by
 refine o1_2 (id I.loc) fun m zq6 _=>?_
 refine o3_2 zq6 fun o es ep ho r=>?_
 obtain ⟨sl,hL⟩:=u.any ho I.free fun z=>(hch _ z).2.1 rfl
 exact I.step (ch:=ch) hch (fun b o hL hb hc e n=>u.keep b o e n (fun z=>(List.mem_cons.mp (I.stkSub b z)).elim hL hb) hc) (fun b o _ _ hc e n=>u.any e n hc) (fun b o hc e n=>u.free b o e n hc) (fun b o hc e=>u.there b o e hc) u.tups u.frzs u.tbls (fun m' hm=>by
  refine o3_2 hm fun o' es' ep' ho' r'=>?_
  try clear hm
  rw [ho] at ho'; cases ho'
  exact ⟨_,es',ep',hL,r'⟩) hok hg
theorem Inv.turned {t':Nat} {it:Addr} (I:Inv X pins σ H s) (k:∀ b o,b ≠ it->s.heap.get? b = some o->h'.get? b = some o) (hn:H it = none) (hL:it ≠ X.env.locals)
  (h1:it ∈ X.ex\/X.s₀.heap.objs.size<=it) (h2:∀ x c,X.env.cells.lookup x = some c->c ≠ it) (h3:∀ p ∈ X.pn ++ pins,p.1 ≠ it):Inv X pins σ H { s with heap:=h',toks:=t' }:=by
 have nit:∀ b u,H b = some u->b ≠ it:=fun b u e z=>by rw [z,hn] at e; cases e
 refine I.step (g':=s.gens) (d':=s.drawn) (ch:=[it]) (fun b hb=>?_) (fun b o _ _ hc e _=>k b o (fun z=>hc (by simp [z])) e) (fun b o _ _ hc e _=>⟨o.slots,k b o (fun z=>hc (by simp [z])) e⟩) (fun _ _ _ _ n=>n)
  (fun b o hc e=>⟨o,k b o (fun z=>hc (by simp [z])) e⟩) (fun _ _ e=>e) (fun _ _ _ e=>e) (fun b ps e=>⟨#[],by rw [e]; simp⟩) (fun m hm=>?_) (fun b u e=>?_) I.bare
 ·have e:b = it:=by simpa using hb
  subst e
  exact ⟨h1,hL,h2,h3⟩
 ·refine o3_2 hm fun o es ep ho r=>?_
  try clear hm
  exact ⟨o,es,ep,k _ o (Ne.symm hL) ho,r⟩
 ·refine (I.hok b u e).stay (fun c v hc q=>k c v ?_ q) (fun _ q=>q) fun _ _ q=>q
  rcases hc with z | z
  ·rw [z]; exact nit b u e
  ·exact nit c _ z
theorem Inv.tok (I:Inv X pins σ H s) (t:Nat):Inv X pins σ H { s with toks:=t }:=I.un (h':=s.heap) (t':=t) Un.refl I.hok
theorem Inv.kept {t':Nat} (I:Inv X pins σ H s) (k:∀ b u,s.heap.get? b = some u->h'.get? b = some u):Inv X pins σ H { s with heap:=h',toks:=t' }:=I.un (Un.kept k) (I.hok.kept k)
theorem Inv.laid {a:Addr} {o:HO} {t':Nat} (I:Inv X pins σ H s) (k:∀ b u,s.heap.get? b = some u->h'.get? b = some u) (hp:s.heap.objs.size<=a) (new:ObjOk X.prog X.w (upd H a o) h' a o) :
  Inv X pins σ (upd H a o) { s with heap:=h',toks:=t' }:=I.un (Un.laid k hp (I.hok.fresh hp)) (I.hok.laid k hp new)
theorem Inv.write {x e:Addr} {o:HO} {t':Nat} (I:Inv X pins σ H s) (mu:Mut (H x)) (he:e = x\/H e = some (.own x)) (k:∀ b u,b ≠ e->s.heap.get? b = some u->h'.get? b = some u) (heo:∃ u,h'.get? e = some u)
  (new:ObjOk X.prog X.w (upd H x o) h' x o):Inv X pins σ (upd H x o) { s with heap:=h',toks:=t' }:=I.un (Un.write mu he k heo) (I.hok.write mu he k heo new)
theorem Inv.pins_of {pins':List (Addr × Obj)} (I:Inv X pins σ H s) (h:∀ p ∈ pins',s.heap.get? p.1 = some p.2/\H p.1 = none/\p.1 ≠ X.env.locals/\p.1 ∉ X.fs/\∀ v,p.2.data ≠ .cell v):Inv X pins' σ H s :=
 ⟨I.ok,I.os,I.bare,I.base,I.loc,I.cell,I.free,I.freeC,fun p hp=>(List.mem_append.mp hp).elim (fun z=>I.pin p (List.mem_append_left _ z)) (h p),I.hok,I.len⟩
theorem nodup_ix {N:List Str} (hN:N.Nodup) {i j:Nat} {x:Str} (a:N[i]? = some x) (b:N[j]? = some x):i = j:=by
 obtain ⟨h1,e1⟩:=List.getElem?_eq_some_iff.mp a
 obtain ⟨h2,e2⟩:=List.getElem?_eq_some_iff.mp b
 exact (List.getElem_inj hN).mp (e1.trans e2.symm)
theorem store_ok2 {M:Model} {A:Around} {E:Value->Shared->Prop} {i:Nat} {x:Str} {v:V} {u:Value} {Q:Unit->Shared->Prop} (I:Inv X pins σ H s) (hN:X.N.Nodup) (hi:X.N[i]? = some x) (hx:Loc X.env.scope x) (r:RelV v u)
  (h:∀ s',Inv X pins (σ.set i (some v)) H s'->(∃ a,Heap.SameBut a s.heap s'.heap/\(a = X.env.locals\/X.env.cells.lookup x = some a))->Q () s') (hf:X.fn x = true\/X.env.scope.names.lookup x = some .local:=by first | exact .inl rfl | exact .inr rfl | assumption):wpAny M A (storeName X.env x u) Q E s:=by
 refine o1_2 (id I.loc) fun m hn hl=>?_
 have hcls:(X.env.scope.kind == .class || (X.env.scope.kind == .module && X.env.locals != X.env.globals)) = false:=by rw [I.ok.kind]; rfl
 have hiσ:i < σ.length:=by rw [I.len]; exact (List.getElem?_eq_some_iff.mp hi).1
 have cne:=I.cne
 have tracked:∀ {a:Addr} {h':Heap},(∃ o,s.heap.get? a = some o/\H a = none)->Heap.SameBut a s.heap h'->HOk X.prog X.w H h':=fun {a h'} ha hs b ob e=>by
  refine o1_2 ha fun _ _ hfree=>?_
  try clear ha
  refine (I.hok b ob e).stay (fun c w' hc q=>(hs.2 c ?_).trans q) (fun _ q=>q) fun _ _ q=>q
  rintro rfl
  rcases hc with rfl | hc
  ·rw [hfree] at e; cases e
  ·rw [hfree] at hc; cases hc
 rcases hx with hk | hk
 ·refine wpAny_storeName_local hk hn (fun h' hn' hs=>?_) hcls
  refine o3_2 (id hn) fun oL _ _ hoL _=>?_
  refine h _ ⟨I.ok,I.os,I.bare,⟨fun b o e n hb hx=>?_,fun b o e n hb hx=>?_,I.base.free,fun b o e hx=>?_,I.base.tups,I.base.frzs,I.base.tbls⟩,⟨_,hn',fun j y v' e1 e2 e3=>?_⟩,fun y c e=>?_,I.free,I.freeC,fun p hp=>?_,tracked ⟨oL,hoL,I.free⟩ hs,by simpa using I.len⟩ ⟨_,hs,.inl rfl⟩
  ·exact (hs.2 b (Nat.ne_of_lt (Nat.lt_of_lt_of_le (Heap.lt_size e) I.ok.above))).trans (I.base.keep b o e n hb hx)
  ·refine o1_1 (I.base.slot b o e n hb hx) fun sl e1=>?_
   exact ⟨sl,(hs.2 b (Nat.ne_of_lt (Nat.lt_of_lt_of_le (Heap.lt_size e) I.ok.above))).trans e1⟩
  ·refine o1_1 (I.base.there b o e hx) fun o' e1=>?_
   exact ⟨o',(hs.2 b (Nat.ne_of_lt (Nat.lt_of_lt_of_le (Heap.lt_size e) I.ok.above))).trans e1⟩
  ·by_cases hj:j = i
   ·subst hj
    rw [hi] at e1; cases e1
    rw [List.getElem?_set_self hiσ] at e2
    cases e2
    exact ⟨u,r,.inl ⟨hk,by simp⟩⟩
   ·rw [List.getElem?_set_ne (Ne.symm hj)] at e2
    refine o1_2 (hl j y v' e1 e2 e3) fun u' r' q=>?_
    refine ⟨u',r',?_⟩
    rcases q with ⟨k,e⟩ | ⟨k,c,e,z⟩
    ·refine .inl ⟨k,?_⟩
     have:y ≠ x:=fun e=>hj (nodup_ix hN e1 (e ▸ hi))
     simp [this,e]
    ·exact .inr ⟨k,c,e,z.sameBut hs (cne y c e)⟩
  ·refine o1_1 (I.cell y c e) fun w' z=>?_
   exact ⟨w',z.sameBut hs (cne y c e)⟩
  ·refine o0_5 (I.pin p hp) fun e n ne nf d=>?_
   exact ⟨(hs.2 p.1 ne).trans e,n,ne,nf,d⟩
 ·have hfn:X.fn x = true:=by
   rcases hf with z | z
   ·exact z
   ·rw [z] at hk; cases hk
  refine o1_1 (I.ok.has x (.inl hk)) fun c hc=>?_
  refine o1_1 (I.cell x c hc) fun w' z=>?_
  refine wpAny_storeName_cell I.ok.kind hk hc z (fun h' hc' hs=>?_)
  refine o1_2 (id z) fun oc hoc hocd=>?_
  refine h { s with heap:=h' } ⟨I.ok,I.os,I.bare,⟨fun b o e n hb hx=>?_,fun b o e n hb hx=>?_,I.base.free,fun b o e hx=>?_,I.base.tups,I.base.frzs,I.base.tbls⟩,⟨m,hn.sameBut hs (Ne.symm (cne x c hc)),fun j y v' e1 e2 e3=>?_⟩,fun y c' e=>?_,I.free,I.freeC,fun p hp=>?_,tracked ⟨oc,hoc,I.freeC x c hc⟩ hs,by simpa using I.len⟩ ⟨c,hs,.inr hc⟩
  ·exact (hs.2 b (Nat.ne_of_lt (Nat.lt_of_lt_of_le (Heap.lt_size e) (I.ok.cab x c hfn hc)))).trans (I.base.keep b o e n hb hx)
  ·refine o1_1 (I.base.slot b o e n hb hx) fun sl e1=>?_
   exact ⟨sl,(hs.2 b (Nat.ne_of_lt (Nat.lt_of_lt_of_le (Heap.lt_size e) (I.ok.cab x c hfn hc)))).trans e1⟩
  ·refine o1_1 (I.base.there b o e hx) fun o' e1=>?_
   exact ⟨o',(hs.2 b (Nat.ne_of_lt (Nat.lt_of_lt_of_le (Heap.lt_size e) (I.ok.cab x c hfn hc)))).trans e1⟩
  ·by_cases hj:j = i
   ·subst hj
    rw [hi] at e1; cases e1
    rw [List.getElem?_set_self hiσ] at e2
    cases e2
    exact ⟨u,r,.inr ⟨.inl hk,c,hc,hc'⟩⟩
   ·rw [List.getElem?_set_ne (Ne.symm hj)] at e2
    refine o1_2 (hl j y v' e1 e2 e3) fun u' r' q=>?_
    refine ⟨u',r',?_⟩
    rcases q with q | ⟨k,c',e,z'⟩
    ·exact .inl q
    ·refine .inr ⟨k,c',e,z'.sameBut hs ?_⟩
     rintro rfl
     exact hj (nodup_ix hN e1 (I.ok.inj _ _ _ e hc ▸ hi))
  ·by_cases hcc:c' = c
   ·subst hcc; exact ⟨_,hc'⟩
   ·refine o1_1 (I.cell y c' e) fun w2 z2=>?_
    exact ⟨w2,z2.sameBut hs hcc⟩
  ·refine o0_5 (I.pin p hp) fun e n ne nf d=>?_
   refine ⟨(hs.2 p.1 ?_).trans e,n,ne,nf,d⟩
   intro q
   rw [q,hoc] at e
   have q':oc = p.2:=Option.some.inj e
   exact d w' (by rw [<-q']; exact hocd)
theorem store_ok {M:Model} {A:Around} {E:Value->Shared->Prop} {i:Nat} {x:Str} {v:V} {u:Value} {Q:Unit->Shared->Prop} (I:Inv X pins σ H s) (hN:X.N.Nodup) (hi:X.N[i]? = some x) (hx:Loc X.env.scope x) (r:RelV v u)
  (h:∀ s',Inv X pins (σ.set i (some v)) H s'->Q () s') (hf:X.fn x = true\/X.env.scope.names.lookup x = some .local:=by first | exact .inl rfl | exact .inr rfl | assumption):wpAny M A (storeName X.env x u) Q E s :=
 store_ok2 I hN hi hx r (fun s' I' _=>h s' I') hf
theorem Inv.call' {s':Shared} {ch:List Addr} (I:Inv X pins σ H s) (ho:s'.os = s.os) (u:Un (frs X.stack) ch H H' s.heap s'.heap) (hok:HOk X.prog X.w H' s'.heap) (hg:AllBare s'.gens)
  (hch:∀ b ∈ ch,(b ∈ X.ex\/X.s₀.heap.objs.size<=b)/\b ≠ X.env.locals/\(∀ x c,X.env.cells.lookup x = some c->c ≠ b)/\∀ p ∈ X.pn ++ pins,p.1 ≠ b):Inv X pins σ H' s':=by
 obtain ⟨h',g',d',t',o'⟩:=s'
 have e:o' = s.os:=ho
 subst e
 exact I.call (g':=g') (t':=t') (d':=d') u hok hg hch
end
noncomputable abbrev XK:=Value->Option Addr->Hp->Prop
noncomputable abbrev St:=List (Option V)
noncomputable abbrev VK:=V->Hp->Prop
noncomputable abbrev TE:=St->Hp->VK->Prop
noncomputable abbrev TT:=St->Hp->(Bool->Hp->Prop)->Prop
noncomputable abbrev TA:=St->Hp->(List V->Hp->Prop)->Prop
structure Ends where
 nx:St->Hp->Prop
 rt:VK
 bk:St->Hp->Prop:=fun _ _=>False
 ct:St->Hp->Prop:=fun _ _=>False
noncomputable abbrev TS:=Ends->St->Hp->Prop
noncomputable def EP (X:Cx) (pins:List (Addr × Obj)) (σ:St) (Q:VK) (u:Value) (s':Shared):Prop:=∃ v H',Inv X pins σ H' s'/\RelV v u/\Q v H'
noncomputable def TP (X:Cx) (pins:List (Addr × Obj)) (σ:St) (Q:Bool->Hp->Prop) (b:Bool) (s':Shared):Prop:=∃ H',Inv X pins σ H' s'/\Q b H'
noncomputable def AP (X:Cx) (pins:List (Addr × Obj)) (σ:St) (Q:List V->Hp->Prop) (us:List Value) (s':Shared):Prop:=∃ vs H',Inv X pins σ H' s'/\Vals vs us/\Q vs H'
noncomputable def SP (X:Cx) (pins:List (Addr × Obj)) (D:Ends) (f:Flow) (s':Shared):Prop :=
 match f with
 | .next=>∃ σ' H',Inv X pins σ' H' s'/\D.nx σ' H'
 | .brk=>∃ σ' H',Inv X pins σ' H' s'/\D.bk σ' H'
 | .cont=>∃ σ' H',Inv X pins σ' H' s'/\D.ct σ' H'
 | .ret u=>∃ v σ' H',Inv X pins σ' H' s'/\RelV v u/\D.rt v H'
noncomputable def PE (X:Cx) (e:Expr) (t:TE):Prop :=
 ∀ (pins:List (Addr × Obj)) (s:Shared) (σ:St) (H:Hp) (Q:VK),Inv X pins σ H s->t σ H Q->wpAny (model X.prog X.w) X.A (eval e X.env) (EP X pins σ Q) X.xe s
noncomputable def PT (X:Cx) (e:Expr) (t:TT):Prop :=
 ∀ (pins:List (Addr × Obj)) (s:Shared) (σ:St) (H:Hp) (Q:Bool->Hp->Prop),Inv X pins σ H s->t σ H Q->wpAny (model X.prog X.w) X.A (isTrue e X.env (eval e X.env)) (TP X pins σ Q) X.xe s
noncomputable def PW (X:Cx) (e:Expr) (t:TT):Prop :=
 ∀ (whole:Sem Value) (pins:List (Addr × Obj)) (s:Shared) (σ:St) (H:Hp) (Q:Bool->Hp->Prop),Inv X pins σ H s->t σ H Q->wpAny (model X.prog X.w) X.A (isTrue e X.env whole) (TP X pins σ Q) X.xe s
theorem PW.pt {X:Cx} {e:Expr} {t:TT} (h:PW X e t):PT X e t:=h _
noncomputable def PA (X:Cx) (es:List Expr) (t:TA):Prop :=
 ∀ (pos:Pos) (pins:List (Addr × Obj)) (s:Shared) (σ:St) (H:Hp) (Q:List V->Hp->Prop),Inv X pins σ H s->t σ H Q->wpAny (model X.prog X.w) X.A (spliced (backTo pos (starEach es X.env))) (AP X pins σ Q) X.xe s
noncomputable def PS (X:Cx) (st:Stmt) (t:TS):Prop :=
 ∀ (pins:List (Addr × Obj)) (s:Shared) (σ:St) (H:Hp) (D:Ends),Inv X pins σ H s->t D σ H->wpAny (model X.prog X.w) X.A (exec st X.env) (SP X pins D) X.xe s
noncomputable def PSs (X:Cx) (st:List Stmt) (t:TS):Prop :=
 ∀ (pins:List (Addr × Obj)) (s:Shared) (σ:St) (H:Hp) (D:Ends),Inv X pins σ H s->t D σ H->wpAny (model X.prog X.w) X.A (execs st X.env) (SP X pins D) X.xe s
theorem thn {α:Type} {t:Sem α} {Q Q':α->Shared->Prop} {M:Model} {A:Around} {E:Value->Shared->Prop} {s:Shared} (h:wpAny M A t Q E s) (hQ:∀ a s,Q a s->Q' a s):wpAny M A t Q' E s:=wpAny_mono h hQ fun _ _ x=>x
end L2
namespace L2
open PySem PySem.Spec PyProof.Rows
section
variable {X:Cx}
noncomputable def tVar (i:Nat):TE:=fun σ H Q=>∃ v,σ[i]? = some (some v)/\Q v H
noncomputable def tC (v:V):TE:=fun _ H Q=>Q v H
theorem pe_var {i:Nat} {x:Str} {pos:Pos} (hN:X.N[i]? = some x) (hv:Vis X.env.scope x) (hd:(x == ("__debug__":Str)) = false:=by decide) (hcd:(x == ("__classdict__":Str)) = false:=by decide):PE X (.Name x pos) (tVar i):=by
 intro pins s σ H Q I h
 obtain ⟨v,e,h⟩:=h
 refine o1_2 I.loc fun m hn hl=>?_
 refine o1_2 (hl i x v hN e hv) fun u r l=>?_
 have fin:EP X pins σ Q u s:=⟨v,H,I,r,h⟩
 rcases l with ⟨hk,hm⟩ | ⟨hk,c,hc,hcell⟩
 ·exact wpAny_Name (wpAny_loadName_local I.ok.kind hk hn hm fin) hd
 ·rcases hk with hk | hk
  ·exact wpAny_Name (wpAny_loadName_cell I.ok.kind hk hc hcell fin) hd
  ·exact wpAny_Name (wpAny_loadName_free I.ok.kind hk hc hcell fin hcd) hd
theorem pe_int {i j pos}:PE X (.Constant (.int i) j pos) (tC (.int i)):=fun _ _ _ H _ I h=>wpAny_Constant_int ⟨.int i,H,I.tok _,⟨_,rfl⟩,h⟩
theorem pe_bl {b j pos}:PE X (.Constant (.bool b) j pos) (tC (.bl b)):=fun _ _ _ H _ I h=>Constant_bool ⟨.bl b,H,I,rfl,h⟩
theorem pe_str {x j pos}:PE X (.Constant (.str x) j pos) (tC (.str x)):=fun _ _ _ H _ I h=>Calls.Constant_str ⟨.str x,H,I.tok _,⟨_,rfl⟩,h⟩
noncomputable def Gl (X:Cx) (x:Str):Prop:=X.env.kindOf x = some .globalImplicit
theorem ld_glob {E:Value->Shared->Prop} {pins:List (Addr × Obj)} {s:Shared} {σ:St} {H:Hp} {x:Str} {u:Value} {pos:Pos} {Q:Value->Shared->Prop} (I:Inv X pins σ H s) (hg:Gl X x) (hm:X.mg x = some u) (h:Q u s)
  (hd:(x == ("__debug__":Str)) = false:=by decide):wpAny (model X.prog X.w) X.A (eval (.Name x pos) X.env) Q E s :=
 Calls.Name_function_global I.ok.kind hg (Calls.loadGlobal_global (by rw [I.ok.glob]; exact I.mod.glob.keeps I.bk) hm h) hd
theorem ld_blt {E:Value->Shared->Prop} {pins:List (Addr × Obj)} {s:Shared} {σ:St} {H:Hp} {x:Str} {u:Value} {pos:Pos} {Q:Value->Shared->Prop} (I:Inv X pins σ H s) (hg:Gl X x) (hm:X.mg x = none) (hv:bootBuiltins x = some u) (h:Q u s)
  (hn:x ≠ "__name__":=by decide) (hd:(x == ("__debug__":Str)) = false:=by decide):wpAny (model X.prog X.w) X.A (eval (.Name x pos) X.env) Q E s:=by
 refine o1_2 I.mod.blt fun mb h1 h2=>?_
 exact Calls.Name_function_global I.ok.kind hg (Calls.loadGlobal_builtin (by rw [I.ok.glob]; exact I.mod.glob.keeps I.bk) hm (by rw [I.ok.blt]; exact h1.keeps I.bk) ((h2 x hn).trans hv) h) hd
theorem pe_glob {x:Str} {v:V} {u:Value} {pos:Pos} (hg:Gl X x) (hm:X.mg x = some u) (r:RelV v u) (hd:(x == ("__debug__":Str)) = false:=by decide):PE X (.Name x pos) (tC v) :=
 fun _ _ _ H _ I h=>ld_glob I hg hm ⟨v,H,I,r,h⟩ hd
theorem pe_bltn {x:Str} {v:V} {u:Value} {pos:Pos} (hg:Gl X x) (hm:X.mg x = none) (hv:bootBuiltins x = some u) (r:RelV v u) (hn:x ≠ "__name__":=by decide) (hd:(x == ("__debug__":Str)) = false:=by decide):PE X (.Name x pos) (tC v) :=
 fun _ _ _ H _ I h=>ld_blt I hg hm hv ⟨v,H,I,r,h⟩ hn hd
variable {a b:Expr} {ta tb:TE} {pos:Pos}
noncomputable def tB (t:TE):TT:=fun σ H Q=>t σ H fun x H1=>∃ c,x = .bl c/\Q c H1
theorem pt_val {e:Expr} {t:TE} (h:PE X e t) (he:∀ whole,isTrue e X.env whole = (do let v <-whole; standAt e.pos; holding [v] (truthy v)):=by intro _; rfl):PT X e (tB t):=by
 intro pins s σ H Q I hw
 refine isTrue_plain (thn (h pins s σ H _ I hw) fun v s1 zz=>?_) (he _)
 refine o2_3 zz fun x H1 I1 r1 q1=>?_
 try clear zz
 refine o1_2 q1 fun d zq25 q=>?_
 try clear q1
 subst zq25
 cases r1
 exact wpAny_truthy_bool ⟨H1,I1,q⟩
variable {tA tB':TT} {rest:List Expr}
noncomputable def tAnd (t u:TT):TT:=fun σ H Q=>t σ H fun c H1=>if c = true then u σ H1 Q else Q false H1
noncomputable def tOr (t u:TT):TT:=fun σ H Q=>t σ H fun c H1=>if c = true then Q true H1 else u σ H1 Q
noncomputable def tNot (t:TT):TT:=fun σ H Q=>t σ H fun c H1=>Q (!c) H1
theorem pw_and1 (ha:PT X a tA):PW X (.BoolOp .And [a] pos) tA:=by
 intro wh pins s σ H Q I h
 refine isTrue_and (thn (ha pins s σ H Q I h) fun c s1 e=>?_)
 cases c with
 | true=>exact isTrue_and_nil e
 | false=>exact e
theorem pw_or1 (ha:PT X a tA):PW X (.BoolOp .Or [a] pos) tA:=by
 intro wh pins s σ H Q I h
 refine isTrue_or (thn (ha pins s σ H Q I h) fun c s1 e=>?_)
 cases c with
 | false=>exact isTrue_or_nil e
 | true=>exact e
theorem pw_and (ha:PT X a tA) (hb:PW X (.BoolOp .And (b :: rest) pos) tB'):PW X (.BoolOp .And (a :: b :: rest) pos) (tAnd tA tB'):=by
 intro wh pins s σ H Q I h
 refine isTrue_and (thn (ha pins s σ H _ I h) fun c s1 zz=>?_)
 refine o1_2 zz fun H1 I1 q1=>?_
 try clear zz
 cases c with
 | true=>exact hb wh pins s1 σ H1 Q I1 q1
 | false=>exact ⟨H1,I1,q1⟩
theorem pw_or (ha:PT X a tA) (hb:PW X (.BoolOp .Or (b :: rest) pos) tB'):PW X (.BoolOp .Or (a :: b :: rest) pos) (tOr tA tB'):=by
 intro wh pins s σ H Q I h
 refine isTrue_or (thn (ha pins s σ H _ I h) fun c s1 zz=>?_)
 refine o1_2 zz fun H1 I1 q1=>?_
 try clear zz
 cases c with
 | true=>exact ⟨H1,I1,q1⟩
 | false=>exact hb wh pins s1 σ H1 Q I1 q1
theorem pt_not (ha:PT X a tA):PT X (.UnaryOp .Not a pos) (tNot tA):=by
 intro pins s σ H Q I h
 exact isTrue_not (ha pins s σ H (fun c H1=>Q (!c) H1) I h)
noncomputable def tAndV (ta tb:TE):TE:=fun σ H Q=>ta σ H fun x H1=>∃ c,x = .bl c/\if c = true then tb σ H1 Q else Q (.bl false) H1
noncomputable def tOrV (ta tb:TE):TE:=fun σ H Q=>ta σ H fun x H1=>∃ c,x = .bl c/\if c = true then Q (.bl true) H1 else tb σ H1 Q
theorem pe_one {op} {t:TE} (h:PE X a t):PE X (.BoolOp op [a] pos) t:=fun pins s σ H Q I hw=>BoolOp_one (h pins s σ H Q I hw)
theorem pe_and (ha:PE X a ta) (hb:PE X (.BoolOp .And (b :: rest) pos) tb):PE X (.BoolOp .And (a :: b :: rest) pos) (tAndV ta tb):=by
 intro pins s σ H Q I h
 refine BoolOp_and (thn (ha pins s σ H _ I h) fun v s1 zz=>?_)
 refine o2_3 zz fun x H1 I1 r1 q1=>?_
 try clear zz
 obtain ⟨c,zq26,q1⟩:=q1
 subst zq26
 cases r1
 refine wpAny_truthy_bool ?_
 cases c with
 | true=>exact hb pins s1 σ H1 Q I1 q1
 | false=>exact ⟨.bl false,H1,I1,rfl,q1⟩
theorem pe_or (ha:PE X a ta) (hb:PE X (.BoolOp .Or (b :: rest) pos) tb):PE X (.BoolOp .Or (a :: b :: rest) pos) (tOrV ta tb):=by
 intro pins s σ H Q I h
 refine BoolOp_or (thn (ha pins s σ H _ I h) fun v s1 zz=>?_)
 refine o2_3 zz fun x H1 I1 r1 q1=>?_
 try clear zz
 obtain ⟨c,zq27,q1⟩:=q1
 subst zq27
 cases r1
 refine wpAny_truthy_bool ?_
 cases c with
 | false=>exact hb pins s1 σ H1 Q I1 q1
 | true=>exact ⟨.bl true,H1,I1,rfl,q1⟩
noncomputable def tIf (t:TT) (ta tb:TE):TE:=fun σ H Q=>t σ H fun c H1=>if c = true then ta σ H1 Q else tb σ H1 Q
theorem pe_ifExp {c:Expr} (hc:PT X c tA) (ha:PE X a ta) (hb:PE X b tb):PE X (.IfExp c a b pos) (tIf tA ta tb):=by
 intro pins s σ H Q I h
 refine wpAny_IfExp (thn (hc pins s σ H _ I h) fun d s1 zz=>?_)
 refine o1_2 zz fun H1 I1 q1=>?_
 try clear zz
 cases d with
 | true=>exact ha pins s1 σ H1 Q I1 q1
 | false=>exact hb pins s1 σ H1 Q I1 q1
end
end L2
namespace L2
open PySem PySem.Spec PyProof.Rows
noncomputable def SqL (K:PySem.W.Frag) (H:Hp) (a:Addr) (xs:List V):Prop :=
 Rd H a (.lst xs) \/
  ∃ (o:Obj) (its:Array Value) (n:Nat),K.lookup a = some o/\o.cls = .type "list"/\o.dict = none/\o.data = .seq its n/\its.size<=sizeLine/\Vals xs its.toList
noncomputable def SqT (K:PySem.W.Frag) (H:Hp) (a:Addr) (xs:List V):Prop :=
 Rd H a (.tup xs) \/
  ∃ (o:Obj) (its:Array Value) (n:Nat),K.lookup a = some o/\o.cls = .type "tuple"/\o.data = .seq its n/\its.size<=sizeLine/\Vals xs its.toList
noncomputable def absV:Value->Option V
 | .none=>some .non
 | .bool b=>some (.bl b)
 | .int i _=>some (.int i)
 | .str x _=>some (.str x)
 | .bytes b _=>some (.byt b)
 | .float b _=>some (.flt b)
 | .ref a=>some (.ref a)
 | .type n=>some (.ty n)
 | _=>none
theorem RelV.abs {x:V} {u:Value} (r:RelV x u):absV u = some x:=by
 cases x with
 | non=>cases r; rfl
 | bl _=>cases r; rfl
 | int _=>obtain ⟨t,rfl⟩:=r; rfl
 | str _=>obtain ⟨t,rfl⟩:=r; rfl
 | byt _=>obtain ⟨t,rfl⟩:=r; rfl
 | flt _=>obtain ⟨t,rfl⟩:=r; rfl
 | ref _=>cases r; rfl
 | ty _=>cases r; rfl
theorem RelV.inj {x y:V} {u:Value} (r:RelV x u) (q:RelV y u):x = y:=Option.some.inj (r.abs.symm.trans q.abs)
theorem Vals.inj:∀ {xs ys:List V} {us:List Value},Vals xs us->Vals ys us->xs = ys
 | _,_,_,.nil,.nil=>rfl
 | _,_,_,.cons r t,.cons r' t'=>by rw [r.inj r',Vals.inj t t']
section
variable {X:Cx} {pins:List (Addr × Obj)} {σ:St} {H:Hp} {s:Shared} {a:Addr} {xs ys:List V}
theorem SqL.of {K:PySem.W.Frag} (h:H a = some (.lst xs)):SqL K H a xs:=.inl (.inl h)
theorem SqT.of {K:PySem.W.Frag} (h:H a = some (.tup xs)):SqT K H a xs:=.inl (.inl h)
theorem Inv.list (I:Inv X pins σ H s) (h:SqL X.K H a xs):∃ its:List Value,Vals xs its/\PlainL s.heap a its.toArray/\xs.length<=sizeLine:=by
 rcases h with h | ⟨o,its,n,hk,hc,hd,hs,hz,r⟩
 ·obtain ⟨z,its,n,r,e⟩:=(h.ok I.hok)
  exact ⟨its,r,⟨_,n,e,rfl,rfl,rfl⟩,z⟩
 ·refine ⟨its.toList,r,⟨o,n,I.kIn a o hk,hc,hd,by simpa using hs⟩,?_⟩
  have e:=r.length
  simp only [Array.length_toList] at e
  lia
theorem Inv.tuple (I:Inv X pins σ H s) (h:SqT X.K H a xs):∃ its:List Value,Vals xs its/\IsTup s.heap a its.toArray/\xs.length<=sizeLine:=by
 rcases h with h | ⟨o,its,n,hk,hc,hs,hz,r⟩
 ·obtain ⟨z,its,r,p⟩:=(h.ok I.hok)
  exact ⟨its,r,p,z⟩
 ·refine ⟨its.toList,r,⟨o,I.kIn a o hk,hc,n,by simpa using hs⟩,?_⟩
  have e:=r.length
  simp only [Array.length_toList] at e
  lia
theorem Inv.list_inj (I:Inv X pins σ H s) (h:SqL X.K H a xs) (h':SqL X.K H a ys):xs = ys:=by
 refine o1_3 (I.list h) fun its r zq29 _=>?_
 refine o2_4 zq29 fun o n e _ _ d=>?_
 refine o1_3 (I.list h') fun its' r' zq30 _=>?_
 refine o2_4 zq30 fun o' n' e' _ _ d'=>?_
 rw [e] at e'; cases e'
 rw [d] at d'
 injection d' with d1 _
 have:its = its':=by simpa using congrArg Array.toList d1
 subst this
 exact r.inj r'
theorem Inv.tuple_inj (I:Inv X pins σ H s) (h:SqT X.K H a xs) (h':SqT X.K H a ys):xs = ys:=by
 refine o1_3 (I.tuple h) fun its r zq31 _=>?_
 obtain ⟨o,e,_,n,d⟩:=zq31
 refine o1_3 (I.tuple h') fun its' r' zq32 _=>?_
 obtain ⟨o',e',_,n',d'⟩:=zq32
 rw [e] at e'; cases e'
 rw [d] at d'
 injection d' with d1 _
 have:its = its':=by simpa using congrArg Array.toList d1
 subst this
 exact r.inj r'
end
noncomputable abbrev Cx.wish (X:Cx) (E:Value->Shared->Prop):Cx:={ X with xe:=E }
noncomputable abbrev Cx.nox (X:Cx):Cx:=X.wish fun _ _=>False
theorem Cx.Ok.wish {X:Cx} (ok:X.Ok) (E:Value->Shared->Prop):(X.wish E).Ok :=
 ⟨ok.mod,ok.kind,ok.glob,ok.blt,ok.above,ok.inj,ok.has,ok.cab,ok.hd,ok.frames,ok.stk,ok.exf,ok.bs,ok.bsz,ok.noex,ok.exfs,ok.funs,ok.frf⟩
theorem Cx.Ok.unwish {X:Cx} {E:Value->Shared->Prop} (ok:(X.wish E).Ok):X.Ok :=
 ⟨ok.mod,ok.kind,ok.glob,ok.blt,ok.above,ok.inj,ok.has,ok.cab,ok.hd,ok.frames,ok.stk,ok.exf,ok.bs,ok.bsz,ok.noex,ok.exfs,ok.funs,ok.frf⟩
section
variable {X:Cx} {pins:List (Addr × Obj)} {σ:St} {H:Hp} {s:Shared} {E:Value->Shared->Prop}
theorem Inv.wish (I:Inv X pins σ H s) (E:Value->Shared->Prop):Inv (X.wish E) pins σ H s:=⟨I.ok.wish E,I.os,I.bare,I.base,I.loc,I.cell,I.free,I.freeC,I.pin,I.hok,I.len⟩
theorem Inv.unwish (I:Inv (X.wish E) pins σ H s):Inv X pins σ H s:=⟨I.ok.unwish,I.os,I.bare,I.base,I.loc,I.cell,I.free,I.freeC,I.pin,I.hok,I.len⟩
theorem SP.unwish {D:Ends} {f:Flow} {s':Shared} (h:SP (X.wish E) pins D f s'):SP X pins D f s':=by
 cases f with
 | next=>obtain ⟨σ',H',I,q⟩:=h; exact ⟨σ',H',I.unwish,q⟩
 | brk=>obtain ⟨σ',H',I,q⟩:=h; exact ⟨σ',H',I.unwish,q⟩
 | cont=>obtain ⟨σ',H',I,q⟩:=h; exact ⟨σ',H',I.unwish,q⟩
 | ret u=>obtain ⟨v,σ',H',I,r,q⟩:=h; exact ⟨v,σ',H',I.unwish,r,q⟩
theorem PSs.nox {st:List Stmt} {t:TS} (h:PSs X.nox st t):PSs X st t:=fun pins s σ H D I hw =>
 wpAny_mono (h pins s σ H D (I.wish _) hw) (fun _ _ q=>q.unwish) fun _ _ z=>False.elim z
end
section
variable {X:Cx} {st:Stmt} {rest:List Stmt} {t u:TS} {e:Expr} {te:TE} {pos:Pos}
noncomputable def tNext:TS:=fun D σ H=>D.nx σ H
noncomputable def tSeq (t u:TS):TS:=fun D σ H=>t { D with nx:=u D } σ H
theorem pss_nil:PSs X [] tNext:=fun _ _ σ H _ I h=>wpAny_execs_nil ⟨σ,H,I,h⟩
theorem pss_cons (h1:PS X st t) (h2:PSs X rest u):PSs X (st :: rest) (tSeq t u):=by
 intro pins s σ H D I h
 refine wpAny_execs_cons (thn (h1 pins s σ H { D with nx:=u D } I h) fun f s1 q=>?_)
 cases f with
 | next =>
  obtain ⟨σ',H',I',q⟩:=q
  exact h2 pins s1 σ' H' D I' q
 | ret v=>exact q
 | brk=>exact q
 | cont=>exact q
theorem pss_one (h1:PS X st t):PSs X [st] t:=by
 intro pins s σ H D I h
 refine wpAny_execs_cons (thn (h1 pins s σ H D I h) fun f s1 q=>?_)
 cases f with
 | next=>exact wpAny_execs_nil q
 | ret v=>exact q
 | brk=>exact q
 | cont=>exact q
theorem Inv.quiet {pins:List (Addr × Obj)} {σ:St} {H:Hp} {s:Shared} (I:Inv X pins σ H s):interactive X.env = false:=by simp [interactive,I.ok.kind]
noncomputable def tDrop (te:TE):TS:=fun D σ H=>te σ H fun _ H1=>D.nx σ H1
theorem ps_expr (he:PE X e te) (hs:swapsWith e none pos.line X.env = pure false:=by rfl):PS X (.Expr e pos) (tDrop te):=by
 intro pins s σ H D I h
 exact wpAny_Expr_any (thn (he pins s σ H _ I h) fun v s1 ⟨x,H1,I1,r1,q1⟩=>⟨σ,H1,I1,q1⟩) I.quiet hs
noncomputable def tRet (te:TE):TS:=fun D σ H=>te σ H D.rt
theorem ps_ret (he:PE X e te):PS X (.Return (some e) pos) (tRet te):=by
 intro pins s σ H D I h
 exact wpAny_Return_some (thn (he pins s σ H _ I h) fun v s1 ⟨x,H1,I1,r1,q1⟩=>⟨x,σ,H1,I1,r1,q1⟩)
noncomputable def tIfS (c:TT) (t u:TS):TS:=fun D σ H=>c σ H fun b H1=>if b = true then t D σ H1 else u D σ H1
theorem ps_if {c:Expr} {a b:List Stmt} {tc:TT} (hc:PT X c tc) (ha:PSs X a t) (hb:PSs X b u):PS X (.If c a b pos) (tIfS tc t u):=by
 intro pins s σ H D I h
 refine wpAny_If (thn (hc pins s σ H _ I h) fun d s1 zz=>?_)
 refine o1_2 zz fun H1 I1 q1=>?_
 try clear zz
 cases d with
 | true=>exact ha pins s1 σ H1 D I1 q1
 | false=>exact hb pins s1 σ H1 D I1 q1
noncomputable def tNever:TS:=fun _ _ _=>False
theorem ps_never:PS X st tNever:=fun _ _ _ _ _ _ h=>h.elim
end
noncomputable abbrev TG:=V->St->Hp->(St->Hp->Prop)->Prop
noncomputable abbrev TGs:=List V->St->Hp->(St->Hp->Prop)->Prop
noncomputable def PG (X:Cx) (target:Expr) (t:TG):Prop :=
 ∀ (pins:List (Addr × Obj)) (s:Shared) (σ:St) (H:Hp) (v:V) (u:Value) (Q:St->Hp->Prop),Inv X pins σ H s->RelV v u->t v σ H Q ->
  wpAny (model X.prog X.w) X.A (assign target X.env u) (fun _ s'=>∃ σ' H',Inv X pins σ' H' s'/\Q σ' H') X.xe s
noncomputable def PGs (X:Cx) (ts:List Expr) (t:TGs):Prop :=
 ∀ (pins:List (Addr × Obj)) (s:Shared) (σ:St) (H:Hp) (vs:List V) (us:List Value) (Q:St->Hp->Prop),Inv X pins σ H s->Vals vs us->t vs σ H Q ->
  wpAny (model X.prog X.w) X.A (assignInOrder ((assignEach ts X.env).map (·.2)) us) (fun _ s'=>∃ σ' H',Inv X pins σ' H' s'/\Q σ' H') X.xe s
noncomputable abbrev TSet:=V->V->V->Hp->(Hp->Prop)->Prop
noncomputable def PSet (X:Cx) (t:TSet):Prop :=
 ∀ (pins:List (Addr × Obj)) (s:Shared) (σ:St) (H:Hp) (o i v:V) (ov iv u:Value) (Q:Hp->Prop),Inv X pins σ H s->RelV o ov->RelV i iv->RelV v u->t o i v H Q ->
  wpAny (model X.prog X.w) X.A (setItem ov iv u) (fun _ s'=>∃ H',Inv X pins σ H' s'/\Q H') X.xe s
section
variable {X:Cx} {pos:Pos}
noncomputable def gName (i:Nat):TG:=fun v σ H Q=>Q (σ.set i (some v)) H
theorem pg_name {i:Nat} {x:Str} (hN:X.N.Nodup) (hi:X.N[i]? = some x) (hx:Loc X.env.scope x) (hf:X.fn x = true\/X.env.scope.names.lookup x = some .local:=by first | exact .inl rfl | exact .inr rfl | assumption):PG X (.Name x pos) (gName i):=by
 intro pins s σ H v u Q I r h
 exact wpAny_assign_Name (store_ok I hN hi hx r (fun s' I'=>⟨_,H,I',h⟩) hf)
noncomputable def gNil:TGs:=fun vs σ H Q=>vs = []/\Q σ H
noncomputable def gCons (t:TG) (u:TGs):TGs:=fun vs σ H Q=>∃ v r,vs = v :: r/\t v σ H fun σ' H'=>u r σ' H' Q
theorem pgs_nil:PGs X [] gNil:=by
 intro pins s σ H vs us Q I r h
 obtain ⟨e,h⟩:=h
 subst e
 cases r
 exact assignInOrder_nil ⟨σ,H,I,h⟩
theorem pgs_cons {e:Expr} {es:List Expr} {t:TG} {u:TGs} (h1:PG X e t) (h2:PGs X es u)
  (hs:(assignEach (e :: es) X.env).map (·.2) = assign e X.env :: (assignEach es X.env).map (·.2):=by rfl):PGs X (e :: es) (gCons t u):=by
 intro pins s σ H vs us Q I r h
 obtain ⟨v,vr,e1,h⟩:=h
 subst e1
 cases r with
 | cons r rr =>
  rw [hs]
  refine assignInOrder_cons (thn (h1 pins s σ H _ _ _ I r h) fun _ s1 zz=>?_)
  refine o2_2 zz fun σ1 H1 I1 q1=>?_
  try clear zz
  exact h2 pins s1 σ1 H1 _ _ Q I1 rr q1
noncomputable def gTup (K:PySem.W.Frag) (n:Nat) (t:TGs):TG:=fun v σ H Q=>∃ a xs,v = .ref a/\SqT K H a xs/\xs.length = n/\t xs σ H Q
theorem pg_tup {es:List Expr} {k:Nat} {t:TGs} {n:Nat} (hc:X.calm = true) (h:PGs X es t)
  (hn:(assignEach es X.env).length = n:=by rfl) (hst:(assignEach es X.env).findIdx? (·.1) = none:=by rfl):PG X (.Tuple es k pos) (gTup X.K n t):=by
 intro pins s σ H v u Q I r hw
 obtain ⟨a,xs,e1,hq,hl,hw⟩:=hw
 subst e1
 cases r
 refine o1_3 (I.tuple hq) fun its rv ht hz=>?_
 refine assign_Tuple_tuple (I.ok.hd hc) ht (by simp [hn,<-hl,rv.length]) hst fun h' hx=>?_
 have I1:Inv X pins σ H { s with heap:=h' }:=I.kept (t':=s.toks) fun b o e=>hx b o (Nat.ne_of_lt (Heap.lt_size e)) e
 exact h pins _ σ H xs _ Q I1 (by simpa using rv) hw
noncomputable def gSub (to ti:TE) (t:TSet):TG:=fun v σ H Q=>to σ H fun o H1=>ti σ H1 fun i H2=>t o i v H2 fun H3=>Q σ H3
theorem pg_sub {o i:Expr} {to ti:TE} {t:TSet} (ho:PE X o to) (hi:PE X i ti) (hs:PSet X t)
  (ha:∀ v,assign (.Subscript o i pos) X.env v = (do
   let ov <-holding [v] (eval o X.env)
   let iv <-holding [v,ov] (eval i X.env)
   standAt pos
   holding [v,ov,iv] (setItem ov iv v)
   release [v,ov,iv] []):=by intro _; rfl):PG X (.Subscript o i pos) (gSub to ti t):=by
 intro pins s σ H v u Q I r h
 rw [ha]
 refine wpAny_bind (wpAny_holding (thn (ho pins s σ H _ I h) fun ov s1 zz=>?_))
 refine o2_3 zz fun x H1 I1 r1 q1=>?_
 try clear zz
 refine wpAny_bind (wpAny_holding (thn (hi pins s1 σ H1 _ I1 q1) fun iv s2 zz=>?_))
 refine o2_3 zz fun y H2 I2 r2 q2=>?_
 try clear zz
 refine wpAny_bind (wpAny_standAt (wpAny_bind (wpAny_holding (thn (hs pins s2 σ H2 x y v ov iv u _ I2 r1 r2 r q2) fun _ s3 zz=>?_))))
 refine o1_2 zz fun H3 I3 q3=>?_
 try clear zz
 exact wpAny_release ⟨σ,H3,I3,q3⟩
noncomputable def tAsg (te:TE) (g:TG):TS:=fun D σ H=>te σ H fun x H1=>g x σ H1 D.nx
theorem ps_asg {tg e:Expr} {te:TE} {g:TG} (he:PE X e te) (hg:PG X tg g) (hs:swapsWithSole [tg] e pos.line X.env = pure false:=by rfl) (hw:swappedStores [tg] e X.env = pure none:=by rfl)
  (h1:(assignEach [tg] X.env).map (·.2) = [assign tg X.env]:=by rfl):PS X (.Assign [tg] e pos) (tAsg te g):=by
 intro pins s σ H D I h
 refine wpAny_Assign_stores (thn (he pins s σ H _ I h) fun v s1 zz=>?_) hs hw
 refine o2_3 zz fun x H1 I1 r1 q1=>?_
 try clear zz
 rw [h1]
 exact thn (hg pins s1 σ H1 x v _ I1 r1 q1) fun _ s2 q=>q
theorem ps_set {i:Nat} {x:Str} {e:Expr} {te:TE} {pos':Pos} (hN:X.N.Nodup) (hi:X.N[i]? = some x) (hx:Loc X.env.scope x) (he:PE X e te) (hs:swapsWith e (some (.Name x pos')) pos.line X.env = pure false:=by rfl) (hf:X.fn x = true\/X.env.scope.names.lookup x = some .local:=by first | exact .inl rfl | exact .inr rfl | assumption) :
  PS X (.Assign [.Name x pos'] e pos) (tAsg te (gName i)):=by
 intro pins s σ H D I h
 refine wpAny_Assign_Name (thn (he pins s σ H _ I h) fun v s1 zz=>?_) hs
 refine o2_3 zz fun y H1 I1 r1 q1=>?_
 try clear zz
 exact store_ok I1 hN hi hx r1 (fun s2 I2=>⟨_,H1,I2,q1⟩) hf
noncomputable def tPar (i j:Nat) (ta:TA):TS:=fun D σ H=>ta σ H fun vs H1=>∃ v w,vs = [v,w]/\D.nx ((σ.set i (some v)).set j (some w)) H1
theorem ps_par {i j:Nat} {x y:Str} {a b:Expr} {ta:TA} {px py pt:Pos} {kt k2 pt2} (hc:X.calm = true) (hN:X.N.Nodup) (hi:X.N[i]? = some x) (hj:X.N[j]? = some y) (hij:i ≠ j)
  (hx:X.env.scope.names.lookup x = some .local) (hy:X.env.scope.names.lookup y = some .local) (ha:PA X [a,b] ta)
  (hw:swappedStores [.Tuple [.Name x px,.Name y py] kt pt] (.Tuple [a,b] k2 pt2) X.env = pure (some [x,y]))
  (hs:swapsWithSole [.Tuple [.Name x px,.Name y py] kt pt] (.Tuple [a,b] k2 pt2) pos.line X.env = pure false:=by rfl) :
  PS X (.Assign [.Tuple [.Name x px,.Name y py] kt pt] (.Tuple [a,b] k2 pt2) pos) (tPar i j ta):=by
 intro pins s σ H D I h
 rw [exec_Assign_arm]
 refine wpAny_bind (wpAny_standAt ?_)
 rw [hs]
 refine wpAny_bind (wpAny_pure ?_)
 rw [if_neg (by decide)]
 refine wpAny_bind (Tuple_ (thn (ha _ pins s σ H _ I h) fun us s1 zz=>?_))
 refine o2_3 zz fun vs H1 I1 r1 q1=>?_
 try clear zz
 obtain ⟨v,w,e1,q1⟩:=q1
 subst e1
 obtain ⟨u1,u2,rfl,rv,rw'⟩:∃ u1 u2,us = [u1,u2]/\RelV v u1/\RelV w u2:=by
  cases r1 with
  | cons p q =>
   cases q with
   | cons p' q' =>
    cases q'
    exact ⟨_,_,rfl,p,p'⟩
 refine wpAny_newObj_type ?_ (by show 2<=sizeLine; decide)
 have I2:Inv X pins σ H1 { s1 with heap:=s1.heap.push { cls:=.type "tuple",data:=.seq [u1,u2].toArray } }:=I1.kept (t':=s1.toks) fun b o e=>Heap.get?_push_of_some _ e
 rw [hw]
 refine wpAny_bind (wpAny_pure ?_)
 show wpAny (model X.prog X.w) X.A (do rule "assign.swapped-stores"; let items <-unpackItems (.ref s1.heap.objs.size) 2 none; assignInOrder [fun v=>bindName X.env y v,fun v=>bindName X.env x v] items.reverse; pure Flow.next) _ _ _
 refine wpAny_bind (wpAny_rule (wpAny_bind (unpackItems_tuple (items:=#[u1,u2]) (I.ok.hd hc) (IsTup.new s1.heap _) fun h' hx'=>?_)))
 have I3:=I2.kept (h':=h') (t':=s1.toks) fun b o e=>hx' b o (Nat.ne_of_lt (Heap.lt_size e)) e
 show wpAny _ _ (assignInOrder [fun v=>bindName X.env y v,fun v=>bindName X.env x v] [u2,u1] >>= fun _=>pure Flow.next) _ _ _
 refine wpAny_bind (assignInOrder_cons (wpAny_bindName (store_ok I3 hN hj (.inl hy) rw' (fun s2 I4=>?_) (.inr hy))))
 refine assignInOrder_cons (wpAny_bindName (store_ok I4 hN hi (.inl hx) rv (fun s3 I5=>assignInOrder_nil (wpAny_pure ?_)) (.inr hx)))
 rw [List.set_comm _ _ (Ne.symm hij)] at I5
 exact ⟨_,H1,I5,q1⟩
end
structure It where
 go:Nat->Hp->Prop
 yld:Nat->Hp->V->Hp->Prop
 stop:Nat->Hp->Prop
noncomputable def FpOk (X:Cx) (pins:List (Addr × Obj)) (H:Hp) (b:Addr):Prop :=
 H b = none/\b ≠ X.env.locals/\b ∉ X.fs/\(b ∈ X.ex\/X.s₀.heap.objs.size<=b)/\(∀ x c,X.env.cells.lookup x = some c->c ≠ b)/\∀ p ∈ X.pn ++ pins,p.1 ≠ b
theorem Inv.fpOk {X:Cx} {pins:List (Addr × Obj)} {σ:St} {H H':Hp} {s:Shared} {b:Addr} (I:Inv X pins σ H s) (hb:s.heap.objs.size<=b) (hn:H' b = none):FpOk X pins H' b:=by
 refine ⟨hn,Nat.ne_of_gt (Nat.lt_of_lt_of_le I.lt hb),I.nofs hb,.inr (Nat.le_trans I.sz hb),fun x c e z=>?_,fun p hp z=>?_⟩
 ·refine o1_1 (I.cell x c e) fun v q=>?_
  exact absurd (Nat.lt_of_lt_of_le q.lt (by rw [z]; exact hb)) (Nat.lt_irrefl _)
 ·exact absurd (Nat.lt_of_lt_of_le (Heap.lt_size (I.pin p hp).1) (by rw [z]; exact hb)) (Nat.lt_irrefl _)
structure Turn (P:Program) (w:World) (K:PySem.W.Frag) (tg:Expr) (J:It) (fp:List Addr) (it:Addr) (tn:Nat->Heap->Prop):Prop where
 mem:it ∈ fp
 obj:∀ i h,tn i h->∀ b ∈ fp,∃ o,h.get? b = some o/\∀ v,o.data ≠ .cell v
 keep:∀ i h h',tn i h->(∀ b ∈ fp,∀ o,h.get? b = some o->h'.get? b = some o)->tn i h'
 item:∀ (X:Cx),X.prog = P->X.w = w->X.K = K->X.calm = true->∀ (i:Nat) (pins:List (Addr × Obj)) (s:Shared) (σ:St) (H:Hp) (E:Value->Shared->Prop),Inv X pins σ H s->(∀ b ∈ fp,FpOk X pins H b)->tn i s.heap->J.go i H ->
  wpAny (model P w) X.A (pyNext (.ref it)) (fun r s1=>∃ u,r = some u /\
   wpAny (model P w) X.A (letOwnedTupleGo tg (.ref it) u) (fun _ s2=>∃ x H',Inv X pins σ H' s2/\RelV x u/\J.yld i H x H'/\tn (i + 1) s2.heap/\∀ b ∈ fp,H' b = none) E s1) E s
 done:∀ (X:Cx),X.prog = P->X.w = w->X.K = K->X.calm = true->∀ (i:Nat) (pins:List (Addr × Obj)) (s:Shared) (σ:St) (H:Hp) (E:Value->Shared->Prop),Inv X pins σ H s->(∀ b ∈ fp,FpOk X pins H b)->tn i s.heap->J.stop i H ->
  wpAny (model P w) X.A (pyNext (.ref it)) (fun r s1=>r = none/\Inv X pins σ H s1) E s
 self:∀ (A:Around) (i:Nat) (s:Shared) (Q:Value->Shared->Prop) (E:Value->Shared->Prop),tn i s.heap->Q (.ref it) s->wpAny (model P w) A (pyIter (.ref it)) Q E s
noncomputable abbrev TI:=St->Hp->(It->Hp->Prop)->Prop
noncomputable def PIE (X:Cx) (pins:List (Addr × Obj)) (σ:St) (tg:Expr) (R:It->Hp->Prop) (itv:Value) (s2:Shared):Prop :=
 ∃ (it:Addr) (fp:List Addr) (tn:Nat->Heap->Prop) (J:It) (H':Hp),itv = .ref it/\Inv X pins σ H' s2/\Turn X.prog X.w X.K tg J fp it tn/\tn 0 s2.heap/\(∀ b ∈ fp,FpOk X pins H' b)/\R J H'
noncomputable def PI (X:Cx) (tg iter:Expr) (wi:TI):Prop :=
 ∀ (pins:List (Addr × Obj)) (s:Shared) (σ:St) (H:Hp) (R:It->Hp->Prop),Inv X pins σ H s->wi σ H R ->
  wpAny (model X.prog X.w) X.A (eval iter X.env) (fun v s1=>wpAny (model X.prog X.w) X.A (pyIter v) (PIE X pins σ tg R) X.xe s1) X.xe s
theorem go_of {M:Model} {A:Around} {E:Value->Shared->Prop} {s:Shared} {tg:Expr} {it:Addr} {u:Value} {o:Obj} {n:String} {vs:Array Value} {Q:Unit->Shared->Prop} (ho:s.heap.get? it = some o) (hc:o.cls = .type n) (hd:o.data = .fields vs)
    (hn:["enumerate", "zip", "dict_itemiterator", "dict_reverseitemiterator", "odict_iterator", "itertools.zip_longest", "itertools.pairwise"].contains n = false) (hQ:Q () s):wpAny M A (letOwnedTupleGo tg (.ref it) u) Q E s:=by
  unfold letOwnedTupleGo
  cases tg <;> first
    | exact wpAny_pure hQ
    | (cases u <;> first
        | exact wpAny_pure hQ
        | (refine wpAny_bind (wpAny_load ho ?_)
           rw [hc,hd]
           show wpAny M A (if (["enumerate", "zip", "dict_itemiterator", "dict_reverseitemiterator", "odict_iterator", "itertools.zip_longest", "itertools.pairwise"].contains n && vs[0]? == some (rawInt _)) = true then _ else _) Q E s
           rw [if_neg (by intro h; rw [hn,Bool.false_and] at h; cases h)]
           exact wpAny_pure hQ))
noncomputable def Itl (K:PySem.W.Frag) (a:Addr):It :=
 ⟨fun i H=>∃ xs x,SqL K H a xs/\xs[i]? = some x,fun i H x H'=>H' = H/\∀ xs,SqL K H a xs->xs[i]? = some x,fun i H=>∃ xs,SqL K H a xs/\xs.length<=i⟩
noncomputable def Itt (K:PySem.W.Frag) (a:Addr):It :=
 ⟨fun i H=>∃ xs x,SqT K H a xs/\xs[i]? = some x,fun i H x H'=>H' = H/\∀ xs,SqT K H a xs->xs[i]? = some x,fun i H=>∃ xs,SqT K H a xs/\xs.length<=i⟩
noncomputable def Itr (lo:Int) (n:Nat):It:=⟨fun i _=>i < n,fun i H x H'=>H' = H/\x = .int (lo + i),fun i _=>n<=i⟩
theorem turn_list {P:Program} {w:World} {K:PySem.W.Frag} {tg:Expr} (a it:Addr):Turn P w K tg (Itl K a) [it] it (fun i h=>h.IsListIter it a i) where
 mem:=by simp
 obj:=fun i h st b hb=>by
  have e:b = it:=by simpa using hb
  subst e
  refine o1_3 st fun o e c d=>?_
  try clear st
  exact ⟨o,e,fun v z=>by rw [d] at z; cases z⟩
 keep:=fun i h h' st k=>st.at fun o e=>k it (by simp) o e
 item:=by
  intro X hP hw hK hc i pins s σ H E I hf st hg
  subst hP hw hK
  refine o2_2 hg fun xs x hq hx=>?_
  try clear hg
  refine o1_3 (I.list hq) fun its rv p hz=>?_
  refine o1_2 (rv.get hx) fun u hu ru=>?_
  refine o0_6 (hf it (by simp)) fun f0 f1 f2 f3 f4 f5=>?_
  refine wpAny_pyNext_list_item st p.isList (x:=u) (by simpa using hu) fun h' st' sb=>?_
  have I1:Inv X pins σ H { s with heap:=h' }:=I.turned (t':=s.toks) (fun b o hb e=>(sb.2 b hb).trans e) f0 f1 f3 f4 f5
  refine o1_3 (id st') fun o e c d=>?_
  exact ⟨u,rfl,go_of (s:={ s with heap:=h' }) e c d (by decide) ⟨x,H,I1,ru,⟨rfl,fun ys hy=>by rw [I.list_inj hy hq]; exact hx⟩,st',fun b hb=>(hf b hb).1⟩⟩
 done:=by
  intro X hP hw hK hc i pins s σ H E I hf st hg
  subst hP hw hK
  refine o1_2 hg fun xs hq hx=>?_
  try clear hg
  refine o1_3 (I.list hq) fun its rv p hz=>?_
  refine o0_6 (hf it (by simp)) fun f0 f1 f2 f3 f4 f5=>?_
  have hl:=rv.length
  exact wpAny_pyNext_list_end (I.ok.hd hc) st p.isList (by simp; lia) fun h' eb=>⟨rfl,I.turned (t':=s.toks) (fun b o hb e=>eb b o hb e) f0 f1 f3 f4 f5⟩
 self:=fun _ _ _ _ _ st h=>wpAny_pyIter_listiter st h
theorem turn_tuple {P:Program} {w:World} {K:PySem.W.Frag} {tg:Expr} (a it:Addr):Turn P w K tg (Itt K a) [it] it (fun i h=>h.IsTupleIter it a i) where
 mem:=by simp
 obj:=fun i h st b hb=>by
  have e:b = it:=by simpa using hb
  subst e
  refine o1_3 st fun o e c d=>?_
  try clear st
  exact ⟨o,e,fun v z=>by rw [d] at z; cases z⟩
 keep:=fun i h h' st k=>st.at fun o e=>k it (by simp) o e
 item:=by
  intro X hP hw hK hc i pins s σ H E I hf st hg
  subst hP hw hK
  refine o2_2 hg fun xs x hq hx=>?_
  try clear hg
  refine o1_3 (I.tuple hq) fun its rv p hz=>?_
  refine o1_2 (rv.get hx) fun u hu ru=>?_
  refine o0_6 (hf it (by simp)) fun f0 f1 f2 f3 f4 f5=>?_
  refine wpAny_pyNext_tuple_item st (show s.heap.IsTuple a its.toArray from p) (x:=u) (by simpa using hu) fun h' st' sb=>?_
  have I1:Inv X pins σ H { s with heap:=h' }:=I.turned (t':=s.toks) (fun b o hb e=>(sb.2 b hb).trans e) f0 f1 f3 f4 f5
  refine o1_3 (id st') fun o e c d=>?_
  exact ⟨u,rfl,go_of (s:={ s with heap:=h' }) e c d (by decide) ⟨x,H,I1,ru,⟨rfl,fun ys hy=>by rw [I.tuple_inj hy hq]; exact hx⟩,st',fun b hb=>(hf b hb).1⟩⟩
 done:=by
  intro X hP hw hK hc i pins s σ H E I hf st hg
  subst hP hw hK
  refine o1_2 hg fun xs hq hx=>?_
  try clear hg
  refine o1_3 (I.tuple hq) fun its rv p hz=>?_
  refine o0_6 (hf it (by simp)) fun f0 f1 f2 f3 f4 f5=>?_
  have hl:=rv.length
  exact wpAny_pyNext_tuple_end (I.ok.hd hc) st (show s.heap.IsTuple a its.toArray from p) (by simp; lia) fun h' eb=>⟨rfl,I.turned (t':=s.toks) (fun b o hb e=>eb b o hb e) f0 f1 f3 f4 f5⟩
 self:=fun _ _ _ _ _ st h=>wpAny_pyIter_tupleiter st h
theorem turn_range {P:Program} {w:World} {K:PySem.W.Frag} {tg:Expr} (it:Addr) (lo:Int) (n:Nat):Turn P w K tg (Itr lo n) [it] it (fun i h=>IsRangeIter h it (lo + (i:Nat) * 1) ((n:Int) - (i:Nat)) 1) where
 mem:=by simp
 obj:=fun i h st b hb=>by
  have e:b = it:=by simpa using hb
  subst e
  exact ⟨_,st,fun v z=>by
   have z':Data.fields _ = Data.cell v:=z
   cases z'⟩
 keep:=fun i h h' st k=>k it (by simp) _ st
 item:=by
  intro X hP hw hK hc i pins s σ H E I hf st hg
  subst hP hw hK
  refine o0_6 (hf it (by simp)) fun f0 f1 f2 f3 f4 f5=>?_
  have W:=Walks.range (prog:=X.prog) (w:=X.w) (I.ok.hd hc) it lo 1 n
  refine W.item i s _ _ hg st fun v h' tk hv st' kk=>?_
  refine o1_1 hv fun t zq39=>?_
  try clear hv
  subst zq39
  have I1:Inv X pins σ H { s with heap:=h',toks:=tk }:=I.turned (fun b o hb e=>kk b o (by simpa using hb) e) f0 f1 f3 f4 f5
  refine ⟨_,rfl,go_of (s:={ s with heap:=h',toks:=tk }) (n := "range_iterator") st' rfl rfl (by decide) ⟨.int (lo + i),H,I1,⟨t,?_⟩,⟨rfl,rfl⟩,st',fun b hb=>(hf b hb).1⟩⟩
  rw [Int.mul_one]
 done:=by
  intro X hP hw hK hc i pins s σ H E I hf st hg
  subst hP hw hK
  refine o0_6 (hf it (by simp)) fun f0 f1 f2 f3 f4 f5=>?_
  exact wpAny_pyNext_range_end (I.ok.hd hc) st (by have:n<=i:=hg; lia) fun h' eb=>⟨rfl,I.turned (t':=s.toks) (fun b o hb e=>eb b o hb e) f0 f1 f3 f4 f5⟩
 self:=fun _ _ _ _ _ st h=>wpAny_pyIter_rangeiter st h
end L2
namespace L2
open PySem PySem.Spec PyProof.Rows
section
variable {X:Cx} {tg:Expr}
noncomputable def iList (K:PySem.W.Frag) (tl:TE):TI:=fun σ H R=>tl σ H fun x H1=>∃ a,x = .ref a/\(∃ xs,SqL K H1 a xs)/\R (Itl K a) H1
theorem pi_list {l:Expr} {tl:TE} (hl:PE X l tl):PI X tg l (iList X.K tl):=by
 intro pins s σ H R I h
 refine thn (hl pins s σ H _ I h) fun v s1 ⟨x,H1,I1,r1,q1⟩=>?_
 refine o1_3 q1 fun a e zq40 q=>?_
 try clear q1
 refine o1_1 zq40 fun xs hq=>?_
 subst e
 cases r1
 refine o1_3 (I1.list hq) fun its rv p hz=>?_
 refine wpAny_pyIter_list p.isList ?_
 refine ⟨s1.heap.objs.size,[s1.heap.objs.size],_,_,H1,rfl,I1.kept (t':=s1.toks) fun b o e=>Heap.get?_push_of_some _ e,turn_list a _,⟨_,Heap.get?_push_size _ rfl,rfl,rfl⟩,fun b hb=>?_,q⟩
 have e:b = s1.heap.objs.size:=by simpa using hb
 subst e
 exact I1.fpOk (Nat.le_refl _) (I1.hok.fresh (Nat.le_refl _))
theorem range_it {pins:List (Addr × Obj)} {σ:St} {H:Hp} {s:Shared} {R:It->Hp->Prop} {E:Value->Shared->Prop} {lo hi:Int} {t u v:Tok} {tk:Nat} (I:Inv X pins σ H s) (h1:-(2 ^ 62)<=lo) (h2:lo < 2 ^ 62) (h3:-(2 ^ 62)<=hi) (h4:hi < 2 ^ 62)
  (q:R (Itr lo (hi - lo).toNat) H):wpAny (model X.prog X.w) X.A (pyIter (.ref s.heap.objs.size)) (PIE X pins σ tg R) E { s with heap:=s.heap.push { cls:=.type "range",data:=.fields #[.int lo t,.int hi u,.int 1 v] },toks:=tk }:=by
 refine wpAny_pyIter_range (IsRange.new ..) (small_one h1 h2 h3 h4) ?_
 have I1:Inv X pins σ H { s with heap:=s.heap.push { cls:=.type "range",data:=.fields #[.int lo t,.int hi u,.int 1 v] },toks:=tk }:=I.kept fun b o e=>Heap.get?_push_of_some _ e
 refine ⟨(s.heap.push { cls:=.type "range",data:=.fields #[.int lo t,.int hi u,.int 1 v] }).objs.size,[(s.heap.push { cls:=.type "range",data:=.fields #[.int lo t,.int hi u,.int 1 v] }).objs.size],_,_,H,rfl,
  I1.kept (t':=tk) fun b o e=>Heap.get?_push_of_some _ e,turn_range _ lo (hi - lo).toNat,?_,fun b hb=>?_,q⟩
 ·have e1:lo + ((0:Nat):Int) * 1 = lo:=by simp
  have e2:(((hi - lo).toNat:Nat):Int) - ((0:Nat):Int) = Builtin.Range.rangeSize lo hi 1:=by rw [rangeSize_one]; split <;> lia
  show IsRangeIter _ _ (lo + ((0:Nat):Int) * 1) ((((hi - lo).toNat:Nat):Int) - ((0:Nat):Int)) 1
  rw [e1,e2]
  exact Heap.get?_push_size _ rfl
 ·have e:b = (s.heap.push { cls:=.type "range",data:=.fields #[.int lo t,.int hi u,.int 1 v] }).objs.size:=by simpa using hb
  subst e
  exact I1.fpOk (Nat.le_refl _) (I1.hok.fresh (Nat.le_refl _))
noncomputable def iRng1 (ta:TA):TI:=fun σ H R=>ta σ H fun vs H1=>∃ j:Int,vs = [.int j]/\-(2 ^ 62)<=j/\j < 2 ^ 62/\R (Itr 0 j.toNat) H1
theorem pi_range1 {a:Expr} {ta:TA} {p pos:Pos} (hg:Gl X "range") (hm:X.mg "range" = none) (ha:PA X [a] ta) (hs:starEach [a] X.env = [(false,eval a X.env)]:=by rfl):PI X tg (.Call (.Name "range" p) [a] [] pos) (iRng1 ta):=by
 intro pins s σ H R I h
 refine Call_ (ld_blt I hg hm boot_range (PyProof.Rows.callWith_type1 (thn (ha pos pins s σ H _ I h) fun us s1 zz=>?_) hs rfl))
 refine o2_3 zz fun vs H1 I1 r1 q1=>?_
 try clear zz
 obtain ⟨j,e,q1,q2,q⟩:=q1
 subst e
 cases r1 with
 | cons r rr =>
  cases rr
  refine o1_1 r fun t zq42=>?_
  try clear r
  subst zq42
  exact call_range_1 (range_it I1 (by lia) (by lia) q1 q2 (by simpa using q))
noncomputable def tFor (wi:TI) (g:TG) (tb:TS):TS:=fun D σ H=>wi σ H fun J H1=>∃ W:Nat->Nat->St->Hp->Prop,(∃ m,W 0 m σ H1)/\∀ i m σ H,W i m σ H ->
 (J.stop i H/\D.nx σ H)\/(J.go i H/\∃ N:St->Hp->Prop,(∀ σ' H',N σ' H'->∃ m',m' < m/\W (i + 1) m' σ' H')/\∀ x H',J.yld i H x H'->g x σ H' fun σ2 H2=>tb { D with nx:=N,ct:=N,bk:=D.nx } σ2 H2)
noncomputable def pinsAt (fp:List Addr) (h:Heap):List (Addr × Obj):=fp.filterMap fun b=>(h.get? b).map fun o=>(b,o)
theorem mem_pinsAt {fp:List Addr} {h:Heap} {b:Addr} {o:Obj} (hb:b ∈ fp) (e:h.get? b = some o):(b,o) ∈ pinsAt fp h:=List.mem_filterMap.mpr ⟨b,hb,by rw [e]; rfl⟩
theorem of_pinsAt {fp:List Addr} {h:Heap} {p:Addr × Obj} (hp:p ∈ pinsAt fp h):p.1 ∈ fp/\h.get? p.1 = some p.2:=by
 refine o1_2 (List.mem_filterMap.mp hp) fun b hb e=>?_
 cases q:h.get? b with
 | none=>rw [q] at e; cases e
 | some o =>
  rw [q] at e
  have e':(b,o) = p:=Option.some.inj e
  subst e'
  exact ⟨hb,q⟩
theorem Inv.pinned {pins:List (Addr × Obj)} {σ:St} {H:Hp} {s:Shared} {fp:List Addr} (I:Inv X pins σ H s) (hf:∀ b ∈ fp,FpOk X pins H b) (ho:∀ b ∈ fp,∃ o,s.heap.get? b = some o/\∀ v,o.data ≠ .cell v):Inv X (pins ++ pinsAt fp s.heap) σ H s :=
 I.pins_of fun p hp=>(List.mem_append.mp hp).elim (fun z=>I.pin p (List.mem_append_right _ z)) fun z=>by
  refine o0_2 (of_pinsAt z) fun hb e=>?_
  refine o0_4 (hf p.1 hb) fun f0 f1 f2 _=>?_
  refine o1_2 (ho p.1 hb) fun o e' d=>?_
  rw [e] at e'; cases e'
  exact ⟨e,f0,f1,f2,d⟩
theorem Inv.unpinned {pins pl:List (Addr × Obj)} {σ:St} {H:Hp} {s:Shared} (I:Inv X (pins ++ pl) σ H s):Inv X pins σ H s:=I.pins_of fun p hp=>I.pin p (List.mem_append_right _ (List.mem_append_left _ hp))
theorem ps_for {iter:Expr} {body:List Stmt} {wi:TI} {g:TG} {tb:TS} {pos:Pos} (hp:PassesOwn (model X.prog X.w) X.A X.env X.xe) (hc:X.calm = true) (hi:PI X tg iter wi) (hg:PG X tg g) (hb:PSs X body tb)
  (hs:∀ x,foldedSetIterable iter X.env x = pure x:=by intro _; rfl):PS X (.For tg iter body [] pos) (tFor wi g tb):=by
 intro pins s σ H D I h
 refine wpAny_For (thn (hi pins s σ H _ I h) fun v s1 h1=>thn h1 fun itv s2 h2=>?_) hs
 obtain ⟨it,fp,tn,J,H2,e,I2,T,st2,f2,W,zq46,turn⟩:=h2
 refine o1_1 zq46 fun m0 w0=>?_
 subst e
 have stat:∀ {H':Hp},(∀ b ∈ fp,H' b = none)->∀ b ∈ fp,FpOk X pins H' b:=fun hn b hb=>⟨hn b hb,(f2 b hb).2⟩
 refine codeAny_forLoop_any (fun n s'=>∃ i σ' H',Inv X pins σ' H' s'/\tn i s'.heap/\(∀ b ∈ fp,H' b = none)/\W i n σ' H') ?_ m0 ⟨0,σ,H2,I2,st2,fun b hb=>(f2 b hb).1,w0⟩
 intro n s3 zq47
 refine o3_4 zq47 fun i σ3 H3 I3 st3 fr3 w3=>?_
 rcases turn i n σ3 H3 w3 with ⟨stop,qn⟩ | ⟨go,N,hN,step⟩
 ·refine wpAny_passesOwn hp (thn (T.done X rfl rfl rfl hc i pins s3 σ3 H3 X.xe I3 (stat fr3) st3 stop) fun r s4 zz=>?_)
  refine o0_2 zz fun hr I4=>?_
  try clear zz
  subst hr
  exact wpAny_execs_nil ⟨σ3,H3,I4,qn⟩
 ·refine wpAny_passesOwn hp (thn (T.item X rfl rfl rfl hc i pins s3 σ3 H3 X.xe I3 (stat fr3) st3 go) fun r s4 zz=>?_)
  refine o1_2 zz fun u hr h4=>?_
  try clear zz
  subst hr
  refine wpAny_passesOwn hp (thn h4 fun _ s5 zz=>?_)
  refine o2_5 zz fun x H5 I5 r5 y5 st5 fr5=>?_
  try clear zz
  have I5':=I5.pinned (stat fr5) (T.obj _ _ st5)
  refine wpAny_passesOwn hp (thn (hg _ s5 σ3 H5 x u _ I5' r5 (step x H5 y5)) fun _ s6 zz=>?_)
  refine o2_2 zz fun σ6 H6 I6 q6=>?_
  try clear zz
  refine wpAny_passesOwn hp (thn (hb _ s6 σ6 H6 _ I6 q6) fun f s7 q7=>?_)
  have again:∀ {σ7:St} {H7:Hp},Inv X (pins ++ pinsAt fp s5.heap) σ7 H7 s7->N σ7 H7->∃ m,m < n/\∃ i σ' H',Inv X pins σ' H' s7/\tn i s7.heap/\(∀ b ∈ fp,H' b = none)/\W i m σ' H':=fun {σ7 H7} I7 n7=>by
   refine o1_2 (hN σ7 H7 n7) fun m' hm w7=>?_
   refine ⟨m',hm,i + 1,σ7,H7,I7.unpinned,T.keep _ _ _ st5 fun b hb o e=>(I7.pin (b,o) (List.mem_append_right _ (List.mem_append_right _ (mem_pinsAt hb e)))).1,fun b hb=>?_,w7⟩
   refine o1_2 (T.obj _ _ st5 b hb) fun o e d=>?_
   exact (I7.pin (b,o) (List.mem_append_right _ (List.mem_append_right _ (mem_pinsAt hb e)))).2.1
  cases f with
  | next=>obtain ⟨σ7,H7,I7,n7⟩:=q7; exact again I7 n7
  | cont=>obtain ⟨σ7,H7,I7,n7⟩:=q7; exact again I7 n7
  | brk=>obtain ⟨σ7,H7,I7,q7⟩:=q7; exact ⟨σ7,H7,I7.unpinned,q7⟩
  | ret v=>obtain ⟨x7,σ7,H7,I7,r7,q7⟩:=q7; exact ⟨x7,σ7,H7,I7.unpinned,r7,q7⟩
end
theorem for_range {lo:Int} {n:Nat} {g:TG} {tb:TS} {D:Ends} {σ:St} {H:Hp} (Pv:Nat->St->Hp->Prop) (h0:Pv 0 σ H)
  (hs:∀ i σ H,i < n->Pv i σ H->g (.int (lo + i)) σ H fun σ2 H2=>tb { D with nx:=Pv (i + 1),ct:=Pv (i + 1),bk:=D.nx } σ2 H2) (hd:∀ σ H,Pv n σ H->D.nx σ H) :
  ∃ W:Nat->Nat->St->Hp->Prop,(∃ m,W 0 m σ H)/\∀ i m σ H,W i m σ H ->
   ((Itr lo n).stop i H/\D.nx σ H)\/((Itr lo n).go i H/\∃ N:St->Hp->Prop,(∀ σ' H',N σ' H'->∃ m',m' < m/\W (i + 1) m' σ' H')/\∀ x H',(Itr lo n).yld i H x H'->g x σ H' fun σ2 H2=>tb { D with nx:=N,ct:=N,bk:=D.nx } σ2 H2):=by
 refine ⟨fun i m σ H=>m = n - i/\i<=n/\Pv i σ H,⟨n,by simp,Nat.zero_le _,h0⟩,?_⟩
 intro i m σ H zq52
 refine o0_3 zq52 fun zq53 hi p=>?_
 subst zq53
 by_cases hlt:i < n
 ·refine .inr ⟨hlt,Pv (i + 1),fun σ' H' p'=>⟨n - (i + 1),by lia,rfl,hlt,p'⟩,fun x H' y=>?_⟩
  obtain ⟨e,y⟩:=y
  subst e y
  exact hs i σ _ hlt p
 ·have e:i = n:=by lia
  subst e
  exact .inl ⟨Nat.le_refl _,hd σ H p⟩
end L2
namespace L2
open PySem PySem.Spec PyProof.Rows
noncomputable abbrev R2:=V->V->Hp->VK->Prop
noncomputable def OpR (X:Cx) (f:Value->Value->Sem Value) (r:R2):Prop :=
 ∀ (pins:List (Addr × Obj)) (s:Shared) (σ:St) (H:Hp) (x y:V) (v u:Value) (Q:VK),Inv X pins σ H s->RelV x v->RelV y u->r x y H Q ->
  wpAny (model X.prog X.w) X.A (f v u) (EP X pins σ Q) X.xe s
noncomputable def UnR (X:Cx) (f:Value->Sem Value) (r:V->Hp->VK->Prop):Prop :=
 ∀ (pins:List (Addr × Obj)) (s:Shared) (σ:St) (H:Hp) (x:V) (v:Value) (Q:VK),Inv X pins σ H s->RelV x v->r x H Q ->
  wpAny (model X.prog X.w) X.A (f v) (EP X pins σ Q) X.xe s
noncomputable def CallR (X:Cx) (f:Value) (r:List V->Hp->VK->Prop):Prop :=
 ∀ (pins:List (Addr × Obj)) (s:Shared) (σ:St) (H:Hp) (xs:List V) (us:List Value) (Q:VK),Inv X pins σ H s->Vals xs us->r xs H Q ->
  wpAny (model X.prog X.w) X.A (call f us) (EP X pins σ Q) X.xe s
noncomputable def tOp (r:R2) (ta tb:TE):TE:=fun σ H Q=>ta σ H fun x H1=>tb σ H1 fun y H2=>r x y H2 Q
noncomputable def tUn (r:V->Hp->VK->Prop) (ta:TE):TE:=fun σ H Q=>ta σ H fun x H1=>r x H1 Q
noncomputable def rI (C:Int->Int->Prop) (g:Int->Int->V):R2:=fun x y H Q=>∃ i j,x = .int i/\y = .int j/\C i j/\Q (g i j) H
noncomputable def rI0 (g:Int->Int->V):R2:=fun x y H Q=>∃ i j,x = .int i/\y = .int j/\Q (g i j) H
noncomputable def rU (g:Int->V):V->Hp->VK->Prop:=fun x H Q=>∃ i,x = .int i/\Q (g i) H
section
variable {X:Cx} {a b c:Expr} {ta tb tc:TE} {pos:Pos}
theorem binT (ha:PE X a ta) (hb:PE X b tb) {pins:List (Addr × Obj)} {s:Shared} {σ:St} {H:Hp} {R:V->V->Hp->Prop} (I:Inv X pins σ H s)
  (h:ta σ H fun x H1=>tb σ H1 fun y H2=>R x y H2) {Q:Value->Shared->Prop} {f:Value->Value->Sem Value}
  (hf:∀ v u s2 x y H2,Inv X pins σ H2 s2->RelV x v->RelV y u->R x y H2->wpAny (model X.prog X.w) X.A (f v u) Q X.xe s2) :
  wpAny (model X.prog X.w) X.A (eval a X.env) (fun v s₁=>wpAny (model X.prog X.w) X.A (eval b X.env) (fun u s₂=>wpAny (model X.prog X.w) X.A (f v u) Q X.xe s₂) X.xe s₁) X.xe s:=by
 refine thn (ha pins s σ H _ I h) fun v s1 ⟨x,H1,I1,r1,q1⟩=>?_
 refine thn (hb pins s1 σ H1 _ I1 q1) fun u s2 ⟨y,H2,I2,r2,q2⟩=>?_
 exact hf v u s2 x y H2 I2 r1 r2 q2
theorem pe_op {op:Operator} {r:R2} (ho:OpR X (binaryOp op) r) (ha:PE X a ta) (hb:PE X b tb):PE X (.BinOp a op b pos) (tOp r ta tb):=by
 intro pins s σ H Q I h
 exact wpAny_BinOp (binT ha hb I h fun v u s2 x y H2 I2 rx ry q=>ho pins s2 σ H2 x y v u Q I2 rx ry q)
theorem pe_un {op:UnaryOp} {r:V->Hp->VK->Prop} (ho:UnR X (unaryOp op) r) (ha:PE X a ta):PE X (.UnaryOp op a pos) (tUn r ta):=by
 intro pins s σ H Q I h
 exact UnaryOp_ (thn (ha pins s σ H _ I h) fun v s1 ⟨x,H1,I1,r1,q1⟩=>ho pins s1 σ H1 x v Q I1 r1 q1)
theorem opI {f:Value->Value->Sem Value} {C:Int->Int->Prop} {g:Int->Int->Int}
  (rule:∀ (i j:Int) (t u:Tok) (s:Shared) (Q:Value->Shared->Prop) (E:Value->Shared->Prop),C i j->Q (.int (g i j) s.toks) { s with toks:=s.toks + 1 }->wpAny (model X.prog X.w) X.A (f (.int i t) (.int j u)) Q E s) :
  OpR X f (rI C fun i j=>.int (g i j)):=by
 intro pins s σ H x y v u Q I rx ry h
 refine o2_4 h fun i j zq56 zq57 hc q=>?_
 try clear h
 subst zq56
 subst zq57
 refine o1_1 rx fun t zq58=>?_
 try clear rx
 subst zq58
 refine o1_1 ry fun t' zq59=>?_
 try clear ry
 subst zq59
 exact rule i j t t' s _ _ hc ⟨.int (g i j),H,I.tok _,⟨_,rfl⟩,q⟩
theorem opI0 {f:Value->Value->Sem Value} {g:Int->Int->Int}
  (rule:∀ (i j:Int) (t u:Tok) (s:Shared) (Q:Value->Shared->Prop) (E:Value->Shared->Prop),Q (.int (g i j) s.toks) { s with toks:=s.toks + 1 }->wpAny (model X.prog X.w) X.A (f (.int i t) (.int j u)) Q E s) :
  OpR X f (rI0 fun i j=>.int (g i j)):=by
 intro pins s σ H x y v u Q I rx ry h
 refine o2_3 h fun i j zq60 zq61 q=>?_
 try clear h
 subst zq60
 subst zq61
 refine o1_1 rx fun t zq62=>?_
 try clear rx
 subst zq62
 refine o1_1 ry fun t' zq63=>?_
 try clear ry
 subst zq63
 exact rule i j t t' s _ _ ⟨.int (g i j),H,I.tok _,⟨_,rfl⟩,q⟩
theorem opB0 {f:Value->Value->Sem Value} {g:Int->Int->Bool}
  (rule:∀ (i j:Int) (t u:Tok) (s:Shared) (Q:Value->Shared->Prop) (E:Value->Shared->Prop),Q (.bool (g i j)) s->wpAny (model X.prog X.w) X.A (f (.int i t) (.int j u)) Q E s) :
  OpR X f (rI0 fun i j=>.bl (g i j)):=by
 intro pins s σ H x y v u Q I rx ry h
 refine o2_3 h fun i j zq64 zq65 q=>?_
 try clear h
 subst zq64
 subst zq65
 refine o1_1 rx fun t zq66=>?_
 try clear rx
 subst zq66
 refine o1_1 ry fun t' zq67=>?_
 try clear ry
 subst zq67
 exact rule i j t t' s _ _ ⟨.bl (g i j),H,I,rfl,q⟩
noncomputable def CDiv (i j:Int):Prop:=0 < j/\j < 1073741824
noncomputable def CPow (i j:Int):Prop:=0<=j/\j<=1000000/\i.natAbs < 2 ^ 64
noncomputable def CMul (i j:Int):Prop:=(-(2 ^ 64) < i/\i < 2 ^ 64)\/(-(2 ^ 64) < j/\j < 2 ^ 64)
theorem CMul.ok {i j:Int} (h:CMul i j):IntMulOk i j:=by
 rcases h with ⟨h1,h2⟩ | ⟨h1,h2⟩
 ·exact .of_left (intBits_le_64 h1 h2)
 ·exact .of_right (intBits_le_64 h1 h2)
theorem two_pow_nn (k:Nat):(0:Int)<=2 ^ k:=by
 rw [two_pow_cast]
 exact Int.natCast_nonneg _
theorem op_add:OpR X (binaryOp .Add) (rI0 fun i j=>.int (i + j)):=opI0 fun _ _ _ _ _ _ _ q=>add_int q
theorem op_sub:OpR X (binaryOp .Sub) (rI0 fun i j=>.int (i - j)):=opI0 fun _ _ _ _ _ _ _ q=>sub_int q
theorem op_mul:OpR X (binaryOp .Mult) (rI CMul fun i j=>.int (i * j)):=opI fun _ _ _ _ _ _ _ hc q=>mul_int q hc.ok
theorem op_fdiv:OpR X (binaryOp .FloorDiv) (rI CDiv fun i j=>.int (i / j)):=opI fun i j _ _ _ _ _ hc q=>by
 have h1:(0:Int) < j:=hc.1
 have h2:j < 1073741824:=hc.2
 exact floordiv_int (by lia) (by rw [Int.fdiv_eq_ediv_of_nonneg i (by lia)]; exact q) (.inl (PyProof.noPylong_small (by lia)))
theorem op_mod:OpR X (binaryOp .Mod) (rI (fun _ j=>0 < j) fun i j=>.int (i % j)):=opI fun i j _ _ _ _ _ hc q=>by
 have h1:(0:Int) < j:=hc
 exact mod_int' (by lia) (by rw [Int.fmod_eq_emod_of_nonneg i (by lia)]; exact q)
theorem op_pow:OpR X (binaryOp .Pow) (rI CPow fun i j=>.int (i ^ j.toNat)):=opI fun _ _ _ _ _ _ _ hc q=>pow_int_small hc.1 hc.2.1 hc.2.2 q
theorem op_shl:OpR X (binaryOp .LShift) (rI CPow fun i j=>.int (i * 2 ^ j.toNat)):=opI fun _ _ _ _ _ _ _ hc q=>lshift_int_small hc.1 hc.2.1 hc.2.2 q
theorem op_shr:OpR X (binaryOp .RShift) (rI (fun _ j=>0<=j) fun i j=>.int (i / 2 ^ j.toNat)):=opI fun i j _ _ _ _ _ hc q =>
 rshift_int hc (by rw [Int.fdiv_eq_ediv_of_nonneg i (two_pow_nn _)]; exact q)
theorem op_and:OpR X (binaryOp .BitAnd) (rI0 fun i j=>.int (Builtin.bitAnd i j)):=opI0 fun _ _ _ _ _ _ _ q=>and_int q
theorem op_or:OpR X (binaryOp .BitOr) (rI0 fun i j=>.int (Builtin.bitOr i j)):=opI0 fun _ _ _ _ _ _ _ q=>or_int q
theorem unI {f:Value->Sem Value} {g:Int->Int}
  (rule:∀ (i:Int) (t:Tok) (s:Shared) (Q:Value->Shared->Prop) (E:Value->Shared->Prop),Q (.int (g i) s.toks) { s with toks:=s.toks + 1 }->wpAny (model X.prog X.w) X.A (f (.int i t)) Q E s) :
  UnR X f (rU fun i=>.int (g i)):=by
 intro pins s σ H x v Q I rx h
 refine o1_2 h fun i zq68 q=>?_
 try clear h
 subst zq68
 refine o1_1 rx fun t zq69=>?_
 try clear rx
 subst zq69
 exact rule i t s _ _ ⟨.int (g i),H,I.tok _,⟨_,rfl⟩,q⟩
theorem un_inv:UnR X (unaryOp .Invert) (rU fun i=>.int (Builtin.bitNot i)):=unI fun _ _ _ _ _ q=>invert_int q
end
noncomputable def scal:V->V->Bool
 | .non,.non=>true | .non,.int _=>true | .int _,.non=>true | .non,.bl _=>true | .bl _,.non=>true | .non,.str _=>true | .str _,.non=>true
 | .int _,.int _=>true | .bl _,.bl _=>true | .str _,.str _=>true | .byt _,.byt _=>true
 | .int _,.str _=>true | .str _,.int _=>true | .bl _,.str _=>true | .str _,.bl _=>true
 | _,_=>false
noncomputable def rEq:R2:=fun x y H Q=>scal x y = true/\Q (.bl (decide (x = y))) H
noncomputable def rNe:R2:=fun x y H Q=>scal x y = true/\Q (.bl (!decide (x = y))) H
theorem dec_int {i j:Int}:decide (V.int i = V.int j) = (i == j):=by
 rw [Bool.eq_iff_iff]
 simp
theorem dec_bl {i j:Bool}:decide (V.bl i = V.bl j) = (i == j):=by
 rw [Bool.eq_iff_iff]
 simp
theorem dec_str {i j:Str}:decide (V.str i = V.str j) = (i == j):=by
 rw [Bool.eq_iff_iff]
 simp
theorem dec_byt {i j:Array UInt8}:decide (V.byt i = V.byt j) = (i.toList == j.toList):=by
 rw [Bool.eq_iff_iff]
 cases i
 cases j
 simp
section
variable {X:Cx} {a b c:Expr} {ta tb tc:TE} {pos:Pos}
theorem fin_bl {pins:List (Addr × Obj)} {σ:St} {H:Hp} {s:Shared} {Q:VK} {k k':Bool} (I:Inv X pins σ H s) (q:Q (.bl k) H) (e:k = k'):EP X pins σ Q (.bool k') s:=by
 subst e
 exact ⟨.bl k,H,I,rfl,q⟩
theorem op_eq:OpR X (compareOp .Eq) rEq:=by
 intro pins s σ H x y v u Q I rx ry h
 refine o0_2 h fun hs q=>?_
 try clear h
 cases x with
 | non =>
  cases rx
  cases y with
  | non=>cases ry; exact PySem.EqNone.eq_none_none (fin_bl I q (by simp))
  | bl j=>cases ry; exact PySem.EqNone.eq_none_bool (fin_bl I q (by simp))
  | int j=>obtain ⟨t',rfl⟩:=ry; exact PySem.EqNone.eq_none_int (fin_bl I q (by simp))
  | str j=>obtain ⟨t',rfl⟩:=ry; exact PySem.EqNone.eq_none_str (fin_bl I q (by simp))
  | _=>exact absurd (show false = true from hs) Bool.false_ne_true
 | bl i =>
  cases rx
  cases y with
  | non=>cases ry; exact PySem.EqNone.eq_bool_none (fin_bl I q (by simp))
  | bl j=>cases ry; exact eq_bool (fin_bl I q dec_bl)
  | str j=>obtain ⟨t',rfl⟩:=ry; exact PySem.EqMixed.eq_bool_str (fin_bl I q (by simp))
  | _=>exact absurd (show false = true from hs) Bool.false_ne_true
 | int i =>
  refine o1_1 rx fun t zq73=>?_
  try clear rx
  subst zq73
  cases y with
  | non=>cases ry; exact PySem.EqNone.eq_int_none (fin_bl I q (by simp))
  | int j=>obtain ⟨t',rfl⟩:=ry; exact eq_int (fin_bl I q dec_int)
  | str j=>obtain ⟨t',rfl⟩:=ry; exact PySem.EqMixed.eq_int_str (fin_bl I q (by simp))
  | _=>exact absurd (show false = true from hs) Bool.false_ne_true
 | str i =>
  refine o1_1 rx fun t zq74=>?_
  try clear rx
  subst zq74
  cases y with
  | non=>cases ry; exact PySem.EqNone.eq_str_none (fin_bl I q (by simp))
  | bl j=>cases ry; exact PySem.EqMixed.eq_str_bool (fin_bl I q (by simp))
  | int j=>obtain ⟨t',rfl⟩:=ry; exact PySem.EqMixed.eq_str_int (fin_bl I q (by simp))
  | str j=>obtain ⟨t',rfl⟩:=ry; exact eq_str (fin_bl I q dec_str)
  | _=>exact absurd (show false = true from hs) Bool.false_ne_true
 | byt i =>
  refine o1_1 rx fun t zq75=>?_
  try clear rx
  subst zq75
  cases y with
  | byt j=>obtain ⟨t',rfl⟩:=ry; exact PySem.W.eq_bytes (fin_bl I q dec_byt)
  | _=>exact absurd (show false = true from hs) Bool.false_ne_true
 | _=>cases y <;> exact absurd (show false = true from hs) Bool.false_ne_true
theorem op_ne:OpR X (compareOp .NotEq) rNe:=by
 intro pins s σ H x y v u Q I rx ry h
 refine o0_2 h fun hs q=>?_
 try clear h
 cases x with
 | non =>
  cases rx
  cases y with
  | non=>cases ry; exact PySem.EqNone.ne_none_none (fin_bl I q (by simp))
  | bl j=>cases ry; exact PySem.EqNone.ne_none_bool (fin_bl I q (by simp))
  | int j=>obtain ⟨t',rfl⟩:=ry; exact PySem.EqNone.ne_none_int (fin_bl I q (by simp))
  | str j=>obtain ⟨t',rfl⟩:=ry; exact PySem.EqNone.ne_none_str (fin_bl I q (by simp))
  | _=>exact absurd (show false = true from hs) Bool.false_ne_true
 | bl i =>
  cases rx
  cases y with
  | non=>cases ry; exact PySem.EqNone.ne_bool_none (fin_bl I q (by simp))
  | bl j=>cases ry; exact ne_bool (fin_bl I q (congrArg not dec_bl))
  | str j=>obtain ⟨t',rfl⟩:=ry; exact PySem.EqMixed.ne_bool_str (fin_bl I q (by simp))
  | _=>exact absurd (show false = true from hs) Bool.false_ne_true
 | int i =>
  refine o1_1 rx fun t zq76=>?_
  try clear rx
  subst zq76
  cases y with
  | non=>cases ry; exact PySem.EqNone.ne_int_none (fin_bl I q (by simp))
  | int j=>obtain ⟨t',rfl⟩:=ry; exact ne_int (fin_bl I q (congrArg not dec_int))
  | str j=>obtain ⟨t',rfl⟩:=ry; exact PySem.EqMixed.ne_int_str (fin_bl I q (by simp))
  | _=>exact absurd (show false = true from hs) Bool.false_ne_true
 | str i =>
  refine o1_1 rx fun t zq77=>?_
  try clear rx
  subst zq77
  cases y with
  | non=>cases ry; exact PySem.EqNone.ne_str_none (fin_bl I q (by simp))
  | bl j=>cases ry; exact PySem.EqMixed.ne_str_bool (fin_bl I q (by simp))
  | int j=>obtain ⟨t',rfl⟩:=ry; exact PySem.EqMixed.ne_str_int (fin_bl I q (by simp))
  | str j=>obtain ⟨t',rfl⟩:=ry; exact ne_str (fin_bl I q (congrArg not dec_str))
  | _=>exact absurd (show false = true from hs) Bool.false_ne_true
 | byt i =>
  refine o1_1 rx fun t zq78=>?_
  try clear rx
  subst zq78
  cases y with
  | byt j=>obtain ⟨t',rfl⟩:=ry; exact PySem.W.ne_bytes (fin_bl I q (congrArg not dec_byt))
  | _=>exact absurd (show false = true from hs) Bool.false_ne_true
 | _=>cases y <;> exact absurd (show false = true from hs) Bool.false_ne_true
theorem op_lt:OpR X (compareOp .Lt) (rI0 fun i j=>.bl (decide (i < j))):=opB0 fun _ _ _ _ _ _ _ q=>lt_int q
theorem op_le:OpR X (compareOp .LtE) (rI0 fun i j=>.bl (decide (i<=j))):=opB0 fun _ _ _ _ _ _ _ q=>le_int q
theorem op_gt:OpR X (compareOp .Gt) (rI0 fun i j=>.bl (decide (j < i))):=opB0 fun _ _ _ _ _ _ _ q=>gt_int q
theorem op_ge:OpR X (compareOp .GtE) (rI0 fun i j=>.bl (decide (j<=i))):=opB0 fun _ _ _ _ _ _ _ q=>ge_int q
theorem op_in_str:OpR X (compareOp .In) (fun x y H Q=>∃ i j,x = .str i/\y = .str j/\Q (.bl (!(Builtin.Str.occurrences j i 0 j.length 1).isEmpty)) H):=by
 intro pins s σ H x y v u Q I rx ry h
 refine o2_3 h fun i j zq83 zq84 q=>?_
 try clear h
 subst zq83
 subst zq84
 refine o1_1 rx fun t zq85=>?_
 try clear rx
 subst zq85
 refine o1_1 ry fun t' zq86=>?_
 try clear ry
 subst zq86
 exact in_str (fin_bl I q rfl)
theorem nomark (b:Expr) {op:CmpOp} (h:op ≠ .In:=by decide) (h2:op ≠ .NotIn:=by decide):behindInMarks op b = false:=by
 have e1:(op == CmpOp.In) = false:=by cases op <;> first | rfl | exact absurd rfl h
 have e2:(op == CmpOp.NotIn) = false:=by cases op <;> first | rfl | exact absurd rfl h2
 cases b <;> simp [behindInMarks,e1,e2]
theorem pe_cmpR {op:CmpOp} {r:R2} (ho:OpR X (compareOp op) r) (ha:PE X a ta) (hb:PE X b tb) (hm:behindInMarks op b = false):PE X (.Compare a [op] [b] pos) (tOp r ta tb):=by
 intro pins s σ H Q I h
 exact wpAny_Compare1 (binT ha hb I h fun v u s2 x y H2 I2 rx ry q=>ho pins s2 σ H2 x y v u Q I2 rx ry q) hm
noncomputable def tTest (t:TE):TT:=fun σ H Q=>t σ H fun x H'=>∃ k,x = .bl k/\Q k H'
theorem pt_cmpR {op:CmpOp} {r:R2} (ho:OpR X (compareOp op) r) (ha:PE X a ta) (hb:PE X b tb) (hm:behindInMarks op b = false):PT X (.Compare a [op] [b] pos) (tTest (tOp r ta tb)):=by
 intro pins s σ H Q I h
 refine wpAny_isTrue_Compare1 (thn (ha pins s σ H _ I h) fun v s1 ⟨x,H1,I1,r1,q1⟩=>thn (hb pins s1 σ H1 _ I1 q1) fun u s2 ⟨y,H2,I2,r2,q2⟩ =>
  thn (ho pins s2 σ H2 x y v u _ I2 r1 r2 q2) fun c s3 ⟨z,H3,I3,r3,k,e,q3⟩=>?_) hm
 subst e
 cases r3
 exact wpAny_truthy_bool ⟨H3,I3,q3⟩
noncomputable def tChain (r r':R2) (ta tb tc:TE):TE:=fun σ H Q=>ta σ H fun x H1=>tb σ H1 fun y H2=>r x y H2 fun z H3=>∃ k,z = .bl k /\
 (if k = true then tc σ H3 fun w' H4=>r' y w' H4 Q else Q (.bl false) H3)
theorem pt_chain {op op':CmpOp} {r r':R2} (ho:OpR X (compareOp op) r) (ho':OpR X (compareOp op') r') (ha:PE X a ta) (hb:PE X b tb) (hc:PE X c tc)
  (hm:lastMarks [op,op'] [b,c] = false:=by with_unfolding_all rfl):PT X (.Compare a [op,op'] [b,c] pos) (tTest (tChain r r' ta tb tc)):=by
 intro pins s σ H Q I h
 refine isTrue_chain (thn (ha pins s σ H _ I h) fun v s1 ⟨x,H1,I1,r1,q1⟩=>test_link (thn (hb pins s1 σ H1 _ I1 q1) fun u s2 ⟨y,H2,I2,r2,q2⟩ =>
  thn (ho pins s2 σ H2 x y v u _ I2 r1 r2 q2) fun d s3 ⟨z,H3,I3,r3,k,e,q3⟩=>?_)) hm
 subst e
 cases r3
 refine wpAny_truthy_bool ?_
 cases k with
 | false =>
  refine o1_2 q3 fun k' e' q'=>?_
  try clear q3
  cases e'
  exact ite_ff ⟨H3,I3,q'⟩
 | true =>
  refine ite_tt (test_last (thn (hc pins s3 σ H3 _ I3 q3) fun w' s4 ⟨z',H4,I4,r4,q4⟩=>thn (ho' pins s4 σ H4 y z' u w' _ I4 r2 r4 q4) fun d' s5 zz=>?_))
  obtain ⟨z2,H5,I5,r5,k2,e2,q5⟩:=zz
  subst e2
  cases r5
  exact wpAny_truthy_bool ⟨H5,I5,q5⟩
theorem line63:(sizeLine:Nat) < 2 ^ 63:=by rw [sizeLine_eq]; decide
theorem op_add_str:OpR X (binaryOp .Add) (fun x y H Q=>∃ i j,x = .str i/\y = .str j/\i.length + j.length<=sizeLine/\Q (.str (i ++ j)) H):=by
 intro pins s σ H x y v u Q I rx ry h
 refine o2_4 h fun i j zq100 zq101 hz q=>?_
 try clear h
 subst zq100
 subst zq101
 refine o1_1 rx fun t zq102=>?_
 try clear rx
 subst zq102
 refine o1_1 ry fun t' zq103=>?_
 try clear ry
 subst zq103
 exact add_str (fun t' tk=>⟨.str (i ++ j),H,I.tok _,⟨_,rfl⟩,q⟩) hz
theorem vals1 {x:V} {us:List Value} (r:Vals [x] us):∃ u,us = [u]/\RelV x u:=by
 cases r with
 | cons r1 r2=>cases r2; exact ⟨_,rfl,r1⟩
theorem vals2 {x y:V} {us:List Value} (r:Vals [x,y] us):∃ u w',us = [u,w']/\RelV x u/\RelV y w':=by
 cases r with
 | cons r1 r2 =>
  cases r2 with
  | cons r3 r4=>cases r4; exact ⟨_,_,rfl,r1,r3⟩
theorem call_abs:CallR X (.builtin "abs") (fun xs H Q=>∃ i,xs = [.int i]/\Q (.int (if i < 0 then -i else i)) H):=by
 intro pins s σ H xs us Q I r h
 refine o1_2 h fun i zq120 q=>?_
 try clear h
 subst zq120
 obtain ⟨u,zq121,t,zq122⟩:=(vals1 r)
 subst zq121
 subst zq122
 exact call_abs_int fun u tk=>⟨.int (if i < 0 then -i else i),H,I.tok _,⟨_,rfl⟩,q⟩
theorem call_max2 (hc:X.calm = true):CallR X (.builtin "max") (fun xs H Q=>∃ i j,xs = [.int i,.int j]/\Q (.int (if j > i then j else i)) H):=by
 intro pins s σ H xs us Q I r h
 refine o2_2 h fun i j zq123 q=>?_
 try clear h
 subst zq123
 refine o2_3 (vals2 r) fun u w' zq124 zq125 zq126=>?_
 subst zq124
 refine o1_1 zq125 fun t zq127=>?_
 subst zq127
 refine o1_1 zq126 fun t' zq128=>?_
 subst zq128
 refine max_two_ints (I.ok.hd hc) fun h' tk k=>⟨_,H,I.kept k,?_,q⟩
 by_cases hj:j > i
 ·rw [if_pos hj,if_pos hj]; exact ⟨_,rfl⟩
 ·rw [if_neg hj,if_neg hj]; exact ⟨_,rfl⟩
theorem call_min2 (hc:X.calm = true):CallR X (.builtin "min") (fun xs H Q=>∃ i j,xs = [.int i,.int j]/\Q (.int (if j < i then j else i)) H):=by
 intro pins s σ H xs us Q I r h
 refine o2_2 h fun i j zq129 q=>?_
 try clear h
 subst zq129
 refine o2_3 (vals2 r) fun u w' zq130 zq131 zq132=>?_
 subst zq130
 refine o1_1 zq131 fun t zq133=>?_
 subst zq133
 refine o1_1 zq132 fun t' zq134=>?_
 subst zq134
 refine min_two_ints (I.ok.hd hc) fun h' tk k=>⟨_,H,I.kept k,?_,q⟩
 by_cases hj:j < i
 ·rw [if_pos hj,if_pos hj]; exact ⟨_,rfl⟩
 ·rw [if_neg hj,if_neg hj]; exact ⟨_,rfl⟩
theorem call_int1:CallR X (.type "int") (fun xs H Q=>(∃ i,xs = [.int i]/\Q (.int i) H)\/∃ k,xs = [.bl k]/\Q (.int (if k then 1 else 0)) H):=by
 intro pins s σ H xs us Q I r h
 rcases h with ⟨i,rfl,q⟩ | ⟨k,rfl,q⟩
 ·obtain ⟨u,zq135,t,zq136⟩:=(vals1 r)
  subst zq135
  subst zq136
  exact call_int_int ⟨.int i,H,I,⟨_,rfl⟩,q⟩
 ·refine o1_2 (vals1 r) fun u zq137 r1=>?_
  subst zq137
  cases r1
  exact call_int_bool ⟨.int (if k then 1 else 0),H,I.tok _,⟨_,rfl⟩,q⟩
end
end L2
namespace L2
open PySem PySem.Spec PyProof.Rows
structure ObjM (h:Heap) (x dx C:Addr) (mA:Str->Option Value):Prop where
 obj:h.get? x = some (PySem.W.instObj C dx)
 ns:h.Ns1 dx mA
 ne:dx ≠ x
theorem lookIn_ns {h:Heap} {dx:Addr} {mA:Str->Option Value} (n:h.Ns1 dx mA):∃ od,h.get? dx = some od/\∀ name,PySem.W.lookIn name od = some (mA name):=by
 refine o3_5 n fun o es ep ho hd hk _ hm=>?_
 try clear n
 refine ⟨o,ho,fun name=>?_⟩
 have e:=hm name
 unfold nsFind findBy at e
 rw [<-Array.find?_toList] at e
 unfold PySem.W.lookIn
 rw [hd]
 dsimp only
 split
 ·rename_i y q
  rw [q] at e
  exact congrArg some e
 ·rename_i q
  rw [q] at e
  have a:es.toList.any (·.refKey) = false:=by
   rw [List.any_eq_false]
   intro y hy
   refine o2_1 (hk y (Array.mem_toList_iff.mp hy)) fun z t hkey=>?_
   simp [DictEntry.refKey,hkey]
  have a':¬ es.toList.any (·.refKey) = true:=by rw [a]; exact Bool.false_ne_true
  rw [if_neg a']
  exact congrArg some e
theorem ObjM.look {h:Heap} {x dx C:Addr} {mA:Str->Option Value} (I:ObjM h x dx C mA):∃ od,PySem.W.InstAt h x (PySem.W.instObj C dx) C (some od)/\∀ name,PySem.W.lookIn name od = some (mA name) :=
 let ⟨od,ho,hl⟩:=lookIn_ns I.ns
 ⟨od,⟨I.obj,rfl,rfl,ho⟩,hl⟩
section
variable {prog:Program} {w:World} {A:Around} {E:Value->Shared->Prop} {s:Shared} {K:PySem.W.Frag} {x dx C f:Addr} {mA:Str->Option Value} {name:Str} {v:Value}
theorem get_map {expr:Bool} {Q:Value->Shared->Prop} (X:K.In s.heap) (I:ObjM s.heap x dx C mA) (hg:PySem.W.plainGet K C name = true) (hh:PySem.W.hasDictIn K C = true)
  (ha:PySem.W.findIn K (.ref C) name = some none) (hv:mA name = some v) (hv':PySem.W.handedIn v = true) (h:Q v { s with toks:=s.toks + 1 }) :
  wpAny (model prog w) A (getAttr (.ref x) name expr) Q E s:=by
 refine o1_2 I.look fun od J hl=>?_
 exact PySem.W.get_value X J (PySem.W.plainGet_of hg).1 (PySem.W.findObj_own hh ha rfl (by rw [hl,hv])) hv' h
theorem get_meth {pl:Sem Bool} {Q:Value × List Value->Shared->Prop} (X:K.In s.heap) (I:ObjM s.heap x dx C mA) (hg:PySem.W.plainGet K C name = true)
  (hf:PySem.W.findIn K (.ref C) name = some (some (.ref f))) (ht:PySem.W.isFn K (.ref f) = true) (hv:mA name = none) (h:Q (.ref f,[.ref x]) s) :
  wpAny (model prog w) A (getMethod (.ref x) name pl) Q E s:=by
 refine o1_2 I.look fun od J hl=>?_
 exact PySem.W.method_fn X J (PySem.W.plainGet_of hg).1 (PySem.W.plainGet_of hg).2 hf (beq_iff_eq.mp ht) (by show (PySem.W.lookIn name od).map (·.isSome) = some false; rw [hl,hv]; rfl) h
theorem set_map {ns:List Str} {Q:Unit->Shared->Prop} (X:K.In s.heap) (I:ObjM s.heap x dx C mA)
  (hs:PySem.W.findIn K (.ref C) "__setattr__" = some (some (.builtin "object.__setattr__"))) (hp:PySem.W.plainOver K C = true) (ht:PySem.W.takerIn K C name = some none) (hh:PySem.W.hasDictIn K C = true)
  (hw:PySem.Within mA ns) (hsz:ns.length<=sizeLine)
  (h:∀ h',ObjM h' x dx C (fun y=>if y = name then some v else mA y)->Heap.SameBut dx s.heap h'->Q () { s with heap:=h',toks:=s.toks + 2 }) :
  wpAny (model prog w) A (setAttr (.ref x) name v) Q E s:=by
 refine o1_2 I.look fun od J hl=>?_
 refine PySem.W.set_plain X J hs (PySem.W.osa_open (s:={ s with toks:=s.toks + 1 }) (r:=none) X J hp ht fun b=>?_)
 refine o1_2 (PySem.W.any_some hh) fun cd hc hd'=>?_
 have hx:s.heap.get? x = some ⟨.ref C,some dx,.plain,#[]⟩:=I.obj
 refine wpAny_bind (wpAny_pure (wpAny_bind (wpAny_bind (wpAny_loadPart hx (wpAny_bind (PySem.W.Looks.here (s:={ s with toks:=s.toks + 1 }) (PySem.W.looks_clsIn X hc) ?_))))))
 rw [hd']
 refine wpAny_pure (a:=some dx) (wpAny_bind (wpAny_pure (wpAny_bind ?_)))
 refine wpAny_nsSet1 (s:={ s with toks:=s.toks + 1 }) I.ns fun h' hn2 hs2=>?_
 refine o3_3 (hn2.count (PySem.Within.cons name v hw)) fun oD esD epD hoD hdD hcD=>?_
 refine wpAny_bind (wpAny_lookBehind hoD (by rw [hdD]; exact pastItsLine_dict (Nat.le_trans hcD (by rw [List.length_cons]; lia))) ?_)
 exact wpAny_pure (h _ ⟨(hs2.2 _ (Ne.symm I.ne)).trans I.obj,hn2,I.ne⟩ hs2)
theorem make_map {R:Result->Shared->Prop} {vs:List Value} {kw:List (Str × Value)} (X:K.In s.heap) (hm:PySem.W.makesIn K C = true)
  (hi:PySem.W.findIn K (.ref C) "__init__" = some (some (.ref f))) (hf:PySem.W.typeIn K (.ref f) = some (.type "function"))
  (h:codeAny (model prog w) (A.under (.builtin "type.__call__" ⟨.ref C :: vs,kw⟩)) (.call (.ref f) ⟨.ref (s.heap.objs.size + 1) :: vs,kw⟩) (PySem.W.InitBack (s.heap.objs.size + 1) R)
   { s with heap:=(s.heap.push PySem.W.emptyDict).push (PySem.W.instObj C s.heap.objs.size) }) :
  codeAny (model prog w) A (.call (.ref C) ⟨vs,kw⟩) R s:=by
 obtain ⟨hh,g,d,t,os⟩:=s
 exact PySem.W.make_core (PySem.W.makes_of X hm) (PySem.W.looks_findIn X hi) (fun self=>PySem.W.bind_fn X self hf) (.inl rfl) h
end
noncomputable def putF (f:Str) (v:V):List (Str × V)->List (Str × V)
 | []=>[(f,v)]
 | (g,x) :: r=>if g = f then (g,v) :: r else (g,x) :: putF f v r
theorem lookup_putF (f g:Str) (v:V):∀ fs:List (Str × V),(putF f v fs).lookup g = if g = f then some v else fs.lookup g
 | []=>by
  show List.lookup g [(f,v)] = _
  by_cases h:g = f
  ·have hb:(g == f) = true:=beq_iff_eq.mpr h
   simp only [List.lookup,hb,if_pos h]
  ·have hb:(g == f) = false:=beq_eq_false_iff_ne.mpr h
   simp only [List.lookup,hb,if_neg h]
 | (k,x) :: r=>by
  have ih:=lookup_putF f g v r
  rw [show putF f v ((k,x) :: r) = (if k = f then (k,v) :: r else (k,x) :: putF f v r) from rfl]
  by_cases hk:k = f
  ·rw [if_pos hk]
   by_cases h:g = k
   ·have hb:(g == k) = true:=beq_iff_eq.mpr h
    simp only [List.lookup,hb,if_pos (h.trans hk)]
   ·have hb:(g == k) = false:=beq_eq_false_iff_ne.mpr h
    simp only [List.lookup,hb,if_neg (fun e:g = f=>h (e.trans hk.symm))]
  ·rw [if_neg hk]
   by_cases h:g = k
   ·have hb:(g == k) = true:=beq_iff_eq.mpr h
    simp only [List.lookup,hb,if_neg (fun e:g = f=>hk (h.symm.trans e))]
   ·have hb:(g == k) = false:=beq_eq_false_iff_ne.mpr h
    simp only [List.lookup,hb]
    exact ih
theorem keys_putF (f:Str) (v:V):∀ fs:List (Str × V),f ∈ (putF f v fs).map (·.1)/\∀ g,g ∈ fs.map (·.1)->g ∈ (putF f v fs).map (·.1)
 | []=>⟨by simp [putF],fun g h=>by simp at h⟩
 | (k,x) :: r=>by
  refine o0_2 (keys_putF f v r) fun i1 i2=>?_
  rw [show putF f v ((k,x) :: r) = (if k = f then (k,v) :: r else (k,x) :: putF f v r) from rfl]
  by_cases hk:k = f
  ·rw [if_pos hk]
   subst hk
   exact ⟨by simp,fun g h=>by simpa using h⟩
  ·rw [if_neg hk]
   refine ⟨?_,fun g h=>?_⟩
   ·rw [List.map_cons]
    exact List.mem_cons_of_mem _ i1
   ·rw [List.map_cons] at h ⊢
    rcases List.mem_cons.mp h with e | e
    ·exact List.mem_cons.mpr (.inl e)
    ·exact List.mem_cons_of_mem _ (i2 g e)
theorem length_putF (f:Str) (v:V):∀ fs:List (Str × V),(putF f v fs).length<=fs.length + 1
 | []=>by simp [putF]
 | (k,x) :: r=>by
  have ih:=length_putF f v r
  rw [show putF f v ((k,x) :: r) = (if k = f then (k,v) :: r else (k,x) :: putF f v r) from rfl]
  by_cases hk:k = f
  ·rw [if_pos hk,List.length_cons,List.length_cons]; lia
  ·rw [if_neg hk,List.length_cons,List.length_cons]; lia
theorem RelO.some_of {v:V} {o:Option Value} (r:RelO (some v) o):∃ u,o = some u/\RelV v u:=by
 cases o with
 | none=>exact (show False from r).elim
 | some u=>exact ⟨u,rfl,r⟩
theorem RelO.none_of {o:Option Value} (r:RelO none o):o = none:=by
 cases o with
 | none=>rfl
 | some u=>exact (show False from r).elim
theorem handed_of {v:V} {u:Value} (r:RelV v u):PySem.W.handedIn u = true:=by
 cases v with
 | non=>cases (show u = Value.none from r); rfl
 | bl b=>cases (show u = Value.bool b from r); rfl
 | int i=>obtain ⟨t,e⟩:=(show ∃ t,u = Value.int i t from r); cases e; rfl
 | str x=>obtain ⟨t,e⟩:=(show ∃ t,u = Value.str x t from r); cases e; rfl
 | byt b=>obtain ⟨t,e⟩:=(show ∃ t,u = Value.bytes b t from r); cases e; rfl
 | flt b=>obtain ⟨t,e⟩:=(show ∃ t,u = Value.float b t from r); cases e; rfl
 | ref a=>cases (show u = Value.ref a from r); rfl
 | ty n=>cases (show u = Value.type n from r); rfl
section
variable {P:Program} {w:World} {H H':Hp} {h h':Heap} {a C dx:Addr} {fs fs':List (Str × V)}
theorem ins_get (hok:HOk P w H h) (e:H a = some (.ins C dx fs)):∃ mA,ObjM h a dx C mA/\(∀ f,RelO (fs.lookup f) (mA f))/\PySem.Within mA (fs.map (·.1))/\fs.length<=1000/\H dx = some (.own a):=by
 obtain ⟨d,z,ne,ob,mA,n,r,q⟩:=((show ObjOk P w H h a (.ins C dx fs) from hok a _ e))
 exact ⟨mA,⟨ob,n,ne⟩,r,q,z,d⟩
end
structure Cls (K:PySem.W.Frag) (C:Addr):Prop where
 pg:PySem.W.plainGet K C Str.empty = true
 hd:PySem.W.hasDictIn K C = true
 po:PySem.W.plainOver K C = true
 sa:PySem.W.findIn K (.ref C) "__setattr__" = some (some (.builtin "object.__setattr__"))
theorem Cls.get {K:PySem.W.Frag} {C:Addr} (c:Cls K C) (f:Str):PySem.W.plainGet K C f = true:=c.pg
noncomputable def NoAttr (K:PySem.W.Frag) (C:Addr) (f:Str):Prop:=PySem.W.findIn K (.ref C) f = some none
theorem NoAttr.taker {K:PySem.W.Frag} {C:Addr} {f:Str} (n:NoAttr K C f):PySem.W.takerIn K C f = some none:=by
 unfold PySem.W.takerIn
 rw [show PySem.W.findIn K (.ref C) f = some none from n]
 rfl
structure Meth (K:PySem.W.Frag) (C:Addr) (m:Str) (f:Addr):Prop where
 at_:PySem.W.findIn K (.ref C) m = some (some (.ref f))
 fn:PySem.W.isFn K (.ref f) = true
 kp:PySem.W.keepIn K (.ref f) = true
section
variable {X:Cx} {pins:List (Addr × Obj)} {σ:St} {H:Hp} {s:Shared} {a C dx:Addr} {fs:List (Str × V)} {f:Str} {v:V} {A:Around} {E:Value->Shared->Prop}
theorem getattr_ok {b:Bool} {Q:Value->Shared->Prop} (I:Inv X pins σ H s) (e:H a = some (.ins C dx fs)) (c:Cls X.K C) (n:NoAttr X.K C f) (l:fs.lookup f = some v)
  (h:∀ u s',Inv X pins σ H s'->RelV v u->Q u s'):wpAny (model X.prog X.w) A (getAttr (.ref a) f b) Q E s:=by
 refine o1_5 (ins_get I.hok e) fun mA O r _ _ _=>?_
 obtain ⟨u,hu,ru⟩:=RelO.some_of (v:=v) (o:=mA f) (by rw [<-l]; exact r f)
 exact get_map I.kIn O (c.get f) c.hd n hu (handed_of ru) (h u _ (I.tok _) ru)
theorem getmeth_ok {m:Str} {g:Addr} {pl:Sem Bool} {Q:Value × List Value->Shared->Prop} (I:Inv X pins σ H s) (e:H a = some (.ins C dx fs)) (c:Cls X.K C) (k:Meth X.K C m g) (l:fs.lookup m = none)
  (h:Q (.ref g,[.ref a]) s):wpAny (model X.prog X.w) A (getMethod (.ref a) m pl) Q E s:=by
 refine o1_5 (ins_get I.hok e) fun mA O r _ _ _=>?_
 have hn:mA m = none:=RelO.none_of (by rw [<-l]; exact r m)
 exact get_meth I.kIn O (c.get m) k.at_ k.fn hn h
theorem setattr_ok {y:V} {u:Value} {Q:Unit->Shared->Prop} (I:Inv X pins σ H s) (e:H a = some (.ins C dx fs)) (c:Cls X.K C) (n:NoAttr X.K C f) (hl:fs.length < 1000) (ry:RelV y u)
  (h:∀ s',Inv X pins σ (upd H a (.ins C dx (putF f y fs))) s'->Q () s'):wpAny (model X.prog X.w) A (setAttr (.ref a) f u) Q E s:=by
 refine o1_5 (ins_get I.hok e) fun mA O r wi _ ho=>?_
 have hz:(fs.map (·.1)).length<=sizeLine:=by rw [List.length_map,sizeLine_eq]; lia
 refine set_map I.kIn O c.sa c.po n.taker c.hd wi hz fun h' O' sb=>h _ ?_
 have hd:∃ o,h'.get? dx = some o:=let ⟨o,_,_,e',_⟩:=O'.ns; ⟨o,e'⟩
 refine I.write (x:=a) (e:=dx) (by rw [e]; exact True.intro) (.inr ho) (fun b q hb z=>(sb.2 b hb).trans z) hd ?_
 refine ⟨by rw [upd_ne O.ne]; exact ho,?_,O.ne,O'.obj,_,O'.ns,fun g=>?_,fun g hg=>?_⟩
 ·have:=length_putF f y fs; lia
 ·show RelO ((putF f y fs).lookup g) (if g = f then some u else mA g)
  rw [lookup_putF]
  by_cases q:g = f
  ·rw [if_pos q,if_pos q]; exact ry
  ·rw [if_neg q,if_neg q]; exact r g
 ·by_cases q:g = f
  ·rw [q]; exact (keys_putF f y fs).1
  ·refine (keys_putF f y fs).2 g (wi g fun z=>hg ?_)
   show (if g = f then some u else mA g) = none
   rw [if_neg q]; exact z
theorem Inv.made (I:Inv X pins σ H s):Inv X pins σ (upd (upd H s.heap.objs.size (.own (s.heap.objs.size + 1))) (s.heap.objs.size + 1) (.ins C s.heap.objs.size []))
  { s with heap:=(s.heap.push PySem.W.emptyDict).push (PySem.W.instObj C s.heap.objs.size) }:=by
 have e1:(s.heap.push PySem.W.emptyDict).get? s.heap.objs.size = some PySem.W.emptyDict:=Heap.get?_push_size s.heap rfl
 have e2:((s.heap.push PySem.W.emptyDict).push (PySem.W.instObj C s.heap.objs.size)).get? (s.heap.objs.size + 1) = some (PySem.W.instObj C s.heap.objs.size):=by
  have:=Heap.get?_push_size (s.heap.push PySem.W.emptyDict) (o:=PySem.W.instObj C s.heap.objs.size) rfl
  rwa [Heap.size_push] at this
 have e3:(s.heap.push PySem.W.emptyDict).Ns s.heap.objs.size (fun _=>none):=⟨PySem.W.emptyDict,#[],_,e1,rfl,(fun e he=>absurd he (by simp)),fun _=>rfl⟩
 have I1:=I.laid (a:=s.heap.objs.size) (o:=.own (s.heap.objs.size + 1)) (h':=s.heap.push PySem.W.emptyDict) (t':=s.toks) (fun b u q=>Heap.get?_push_of_some _ q) (Nat.le_refl _) ⟨_,e1⟩
 refine I1.laid (a:=s.heap.objs.size + 1) (o:=.ins C s.heap.objs.size []) (t':=s.toks) (fun b u q=>Heap.get?_push_of_some _ q) (Nat.le_of_eq (Heap.size_push _ _)) ?_
 have ne:s.heap.objs.size ≠ s.heap.objs.size + 1:=Nat.ne_of_lt (Nat.lt_succ_self _)
 refine ⟨by rw [upd_ne ne,upd_same],Nat.zero_le _,ne,e2,fun _=>none,(Heap.Ns1.of_empty e3).at fun o q=>Heap.get?_push_of_some _ q,fun _=>True.intro,fun y hy=>absurd rfl hy⟩
theorem attr_of {prog:Program} {w:World} {env:Env} {e:Expr} {f:Str} {pos:Pos} {s:Shared} {Q:Value->Shared->Prop} (hb:attributeBase e f env (eval e env) = eval e env)
  (h:wpAny (model prog w) A (eval e env) (fun o s₁=>wpAny (model prog w) A (getAttr o f true) Q E s₁) E s):wpAny (model prog w) A (eval (.Attribute e f pos) env) Q E s :=
 Attribute_any_ h (by rw [arm_eval_Attribute,hb])
end
noncomputable def tFld (K:PySem.W.Frag) (ta:TE) (f:Str):TE:=fun σ H Q=>ta σ H fun x H1=>∃ a C dx fs v,x = .ref a/\H1 a = some (.ins C dx fs)/\Cls K C/\NoAttr K C f/\fs.lookup f = some v/\Q v H1
noncomputable def sFld (K:PySem.W.Frag) (ta tv:TE) (f:Str):TS:=fun D σ H=>tv σ H fun y H1=>ta σ H1 fun x H2=>∃ a C dx fs,x = .ref a/\H2 a = some (.ins C dx fs)/\Cls K C/\NoAttr K C f/\fs.length < 1000 /\
 D.nx σ (upd H2 a (.ins C dx (putF f y fs)))
section
variable {X:Cx} {o e value:Expr} {f:Str} {pos pos' tpos:Pos} {ta tv:TE}
theorem pe_fld (he:PE X e ta) (hb:attributeBase e f X.env (eval e X.env) = eval e X.env):PE X (.Attribute e f pos) (tFld X.K ta f):=by
 intro pins s σ H Q I h
 refine attr_of hb (thn (he pins s σ H _ I h) fun u s1 zz=>?_)
 obtain ⟨x,H1,I1,rx,a,C,dx,fs,v,ex,ea,c,n,l,q⟩:=zz
 subst ex
 obtain rfl:u = Value.ref a:=rx
 exact getattr_ok I1 ea c n l fun u' s2 I2 ru=>⟨v,H1,I2,ru,q⟩
theorem ps_fld (ha:PE X o ta) (hv:PE X value tv) (hs:swapsWith value (some (.Attribute o f pos')) pos.line X.env = pure false):PS X (.Assign [.Attribute o f pos'] value pos) (sFld X.K ta tv f):=by
 intro pins s σ H D I h
 refine plainObj_wpAny_Assign_Attribute (thn (hv pins s σ H _ I h) fun u s1 ⟨y,H1,I1,ry,q⟩=>thn (ha pins s1 σ H1 _ I1 q) fun ov s2 zz=>?_) hs
 obtain ⟨x,H2,I2,rx,a,C,dx,fs,ex,ea,c,n,l,q2⟩:=zz
 subst ex
 obtain rfl:ov = Value.ref a:=rx
 exact setattr_ok I2 ea c n l ry fun s3 I3=>⟨σ,_,I3,q2⟩
end
section
variable {X:Cx} {pins:List (Addr × Obj)} {σ:St} {H:Hp} {s:Shared} {A:Around} {E:Value->Shared->Prop} {Q:Value->Shared->Prop} {c:Value} {b:Bool}
inductive TyOf (K:PySem.W.Frag) (H:Hp):V->Value->Prop where
 | non:TyOf K H .non (.type "NoneType")
 | bl (x:Bool):TyOf K H (.bl x) (.type "bool")
 | int (i:Int):TyOf K H (.int i) (.type "int")
 | str (x:Str):TyOf K H (.str x) (.type "str")
 | flt (x:UInt64):TyOf K H (.flt x) (.type "float")
 | lst {a:Addr} {xs:List V} (e:H a = some (.lst xs)):TyOf K H (.ref a) (.type "list")
 | frz {a:Addr} {o:Obj} {xs:List V} (e:H a = some (.frz o (.lst xs))):TyOf K H (.ref a) (.type "list")
 | tup {a:Addr} {xs:List V} (e:H a = some (.tup xs)):TyOf K H (.ref a) (.type "tuple")
 | dK {a:Addr} {kvs:List (Key × V)} (e:H a = some (.dK kvs)):TyOf K H (.ref a) (.type "dict")
 | dT {a:Addr} {kvs:List (List Key × V)} (e:H a = some (.dT kvs)):TyOf K H (.ref a) (.type "dict")
 | ins {a C dx:Addr} {fs:List (Str × V)} (e:H a = some (.ins C dx fs)) (cl:Cls K C) (ha:PySem.W.findIn K (.ref C) "__class__" = some (some (.builtin "object.__class__")))
   (hn:PySem.W.specialIn K (.builtin "object.__class__") "__get__" = some (some (.builtin "getset_descriptor.__get__"))) (htk:PySem.W.takesIn K (.builtin "object.__class__") = some true)
   (hm:PySem.W.mroIn K C (.type "object") = some true):TyOf K H (.ref a) (.ref C)
theorem isinst_ok {x:V} {u t:Value} (I:Inv X pins σ H s) (rx:RelV x u) (ty:TyOf X.K H x t) (e:PySem.W.kitOne X.K t c = some b) (h:∀ tk,Q (.bool b) { s with toks:=tk }) :
  wpAny (model X.prog X.w) A (call (.builtin "isinstance") [u,c]) Q E s:=by
 cases ty with
 | non=>cases (show u = Value.none from rx); exact PySem.W.kia_one PySem.W.kitx_none I.kIn True.intro e (fun z=>nomatch z) h
 | bl y=>cases (show u = Value.bool y from rx); exact PySem.W.kia_one PySem.W.kitx_bool I.kIn True.intro e (fun z=>nomatch z) h
 | int i=>obtain ⟨t,q⟩:=(show ∃ t,u = Value.int i t from rx); cases q; exact PySem.W.kia_one PySem.W.kitx_int I.kIn True.intro e (fun z=>nomatch z) h
 | str y=>obtain ⟨t,q⟩:=(show ∃ t,u = Value.str y t from rx); cases q; exact PySem.W.kia_one PySem.W.kitx_str I.kIn True.intro e (fun z=>nomatch z) h
 | flt y=>obtain ⟨t,q⟩:=(show ∃ t,u = Value.float y t from rx); cases q; exact PySem.W.kia_one PySem.W.kitx_float I.kIn True.intro e (fun z=>nomatch z) h
 | @lst a xs ea =>
  cases (show u = Value.ref a from rx)
  obtain ⟨_,_,n,_,h1⟩:=((show ObjOk X.prog X.w H s.heap a (.lst xs) from I.hok a _ ea))
  exact PySem.W.kia_one PySem.W.kitx_list I.kIn ⟨_,h1,rfl⟩ e (fun z=>nomatch z) h
 | @frz a ob xs ea =>
  cases (show u = Value.ref a from rx)
  obtain ⟨_,_,_,n,_,h1⟩:=((show ObjOk X.prog X.w H s.heap a (.frz ob (.lst xs)) from I.hok a _ ea))
  exact PySem.W.kia_one PySem.W.kitx_list I.kIn ⟨_,h1,rfl⟩ e (fun z=>nomatch z) h
 | @tup a xs ea =>
  cases (show u = Value.ref a from rx)
  obtain ⟨_,_,_,p⟩:=((show ObjOk X.prog X.w H s.heap a (.tup xs) from I.hok a _ ea))
  refine o1_3 p fun o h1 h2 _=>?_
  try clear p
  exact PySem.W.kia_one PySem.W.kitx_tuple I.kIn ⟨o,h1,h2⟩ e (fun z=>nomatch z) h
 | @dK a kvs ea =>
  cases (show u = Value.ref a from rx)
  obtain ⟨_,_,vs,_,p⟩:=((show ObjOk X.prog X.w H s.heap a (.dK kvs) from I.hok a _ ea))
  refine o3_3 p fun o es ep h1 h2 _=>?_
  try clear p
  exact PySem.W.kia_one PySem.W.kitx_dict I.kIn ⟨o,h1,h2.1⟩ e (fun z=>nomatch z) h
 | @dT a kvs ea =>
  cases (show u = Value.ref a from rx)
  obtain ⟨_,_,xs,_,o,es,ep,h1,h2,_⟩:=((show ObjOk X.prog X.w H s.heap a (.dT kvs) from I.hok a _ ea))
  exact PySem.W.kia_one PySem.W.kitx_dict I.kIn ⟨o,h1,h2.1⟩ e (fun z=>nomatch z) h
 | @ins a C dx fs ea cl ha hn htk hm =>
  cases (show u = Value.ref a from rx)
  refine o1_2 (ins_get I.hok ea) fun mA O _=>?_
  refine o1_2 O.look fun od J _=>?_
  exact PySem.W.kia_one (PySem.W.kitx_own (cl.get _) cl.hd ha hn htk hm) I.kIn J e (fun z=>nomatch z) h
end
end L2
namespace L2
open PySem PySem.Spec PyProof.Rows
structure Room (k:Nat) (A:Around):Prop where
 hd:A.handled = none
 dp:A.depth + 3 * k + 5 < recursionLimit
 un:A.units + 16 * k + 200 < cLine
theorem Room.mono {j k:Nat} {A:Around} (r:Room k A) (h:j<=k):Room j A:=⟨r.hd,by have:=r.dp; lia,by have:=r.un; lia⟩
theorem Room.deeper {k:Nat} {A:Around} (r:Room (k + 1) A) (env:Env):Room k (A.deeper env) :=
 ⟨r.hd,by have:=r.dp; show A.depth + 1 + 3 * k + 5 < _; lia,by have:=r.un; show A.units + 3 + 16 * k + 200 < _; lia⟩
theorem make_depth {A:Around} {C:Addr} {us:List Value} {kw:List (Str × Value)}:(A.under (.builtin "type.__call__" ⟨.ref C :: us,kw⟩)).depth = A.depth + 1:=by
 first | rfl | simp [Around.under,Code.weight,Code.isCreation,Code.isGuard,Code.isCaller,Code.frames,Code.isFrame,guardIds]
theorem make_units {A:Around} {C:Addr} {us:List Value} {kw:List (Str × Value)}:(A.under (.builtin "type.__call__" ⟨.ref C :: us,kw⟩)).units = A.units + 1:=by
 first | rfl | simp [Around.under,Code.cUnits,Code.frames,Code.isFrame]
theorem Room.make {k:Nat} {A:Around} (r:Room (k + 1) A) (C:Addr) (us:List Value) (kw:List (Str × Value)):Room k (A.under (.builtin "type.__call__" ⟨.ref C :: us,kw⟩)) :=
 ⟨r.hd,by have:=r.dp; rw [make_depth]; lia,by have:=r.un; rw [make_units]; lia⟩
theorem Room.depth {k:Nat} {A:Around} (r:Room k A):A.depth < recursionLimit:=by have:=r.dp; lia
theorem Room.units {k:Nat} {A:Around} (r:Room k A):A.units + 64 < cLine:=by have:=r.un; lia
noncomputable def tNil:TA:=fun _ H Q=>Q [] H
noncomputable def tCons (ta:TE) (tr:TA):TA:=fun σ H Q=>ta σ H fun x H1=>tr σ H1 fun xs H2=>Q (x :: xs) H2
section
variable {X:Cx} {e:Expr} {es:List Expr} {te:TE} {t:TA} {pos:Pos}
theorem pa_nil:PA X [] tNil:=fun _ _ _ _ H Q I h=>Calls.spliced_nil ⟨[],H,I,.nil,h⟩
theorem pa_cons (ha:PE X e te) (hr:PA X es t) (hs:starEach (e :: es) X.env = (false,eval e X.env) :: starEach es X.env:=by rfl):PA X (e :: es) (tCons te t):=by
 intro pos pins s σ H Q I h
 rw [hs]
 show wpAny _ _ (spliced ((false,eval e X.env) :: backTo pos (starEach es X.env))) _ _ s
 refine Calls.spliced_cons (thn (ha pins s σ H _ I h) fun u s1 zz=>?_)
 refine o2_3 zz fun x H1 I1 r1 q1=>?_
 try clear zz
 exact thn (hr pos pins s1 σ H1 _ I1 q1) fun us s2 ⟨xs,H2,I2,r2,q2⟩=>⟨x :: xs,H2,I2,.cons r1 r2,q2⟩
noncomputable def tTup (t:TA):TE:=fun σ H Q=>t σ H fun xs H1=>xs.length<=sizeLine/\∀ p,H1 p = none->Q (.ref p) (upd H1 p (.tup xs))
noncomputable def tLst (t:TA):TE:=fun σ H Q=>t σ H fun xs H1=>xs.length<=sizeLine/\∀ p,H1 p = none->Q (.ref p) (upd H1 p (.lst xs))
theorem pe_tup {x1} (h:PA X es t):PE X (.Tuple es x1 pos) (tTup t):=by
 intro pins s σ H Q I hq
 refine wpAny_Tuple_spliced (thn (h pos pins s σ H _ I hq) fun us s1 ⟨xs,H1,I1,r,z,q⟩=>⟨by rw [<-r.length]; exact z,?_⟩)
 have hf:H1 s1.heap.objs.size = none:=I1.hok.fresh (Nat.le_refl _)
 refine ⟨.ref s1.heap.objs.size,upd H1 s1.heap.objs.size (.tup xs),I1.laid (t':=s1.toks) (fun b u e=>Heap.get?_push_of_some _ e) (Nat.le_refl _) ?_,rfl,q _ hf⟩
 exact ⟨z,us,r,⟨_,Heap.get?_push_size _ rfl,rfl,_,rfl⟩⟩
theorem pe_lst (h:PA X es t):PE X (.List es pos) (tLst t):=by
 intro pins s σ H Q I hq
 refine wpAny_List_spliced (thn (h pos pins s σ H _ I hq) fun us s1 ⟨xs,H1,I1,r,z,q⟩=>⟨by rw [<-r.length]; exact z,?_⟩)
 have hf:H1 s1.heap.objs.size = none:=I1.hok.fresh (Nat.le_refl _)
 refine ⟨.ref s1.heap.objs.size,upd H1 s1.heap.objs.size (.lst xs),I1.laid (t':=s1.toks) (fun b u e=>Heap.get?_push_of_some _ e) (Nat.le_refl _) ?_,rfl,q _ hf⟩
 exact ⟨z,us,0,r,Heap.get?_push_size _ rfl⟩
end
noncomputable abbrev Sp:=List V->Hp->VK->XK->Prop
noncomputable abbrev CXT:=List Env->Hp->Shared->XK->Value->Shared->Prop
structure Env0 (P:Program) (w:World) (K:PySem.W.Frag) (mg:Str->Option Value) (base:Heap) (A:Around) (outer:List Env) (s:Shared) (H:Hp):Prop where
 frames:A.frames = some outer
 mod:Mod K mg base
 bs:∀ b o,base.get? b = some o->s.heap.get? b = some o/\H b = none
 bsz:base.objs.size<=s.heap.objs.size
 funs:s.heap.FunFrames base outer
 frf:∀ b ∈ frs outer,H b = none
 hok:HOk P w H s.heap
 bare:AllBare s.gens
noncomputable def CE (outer:List Env) (P:Program) (w:World) (H:Hp) (s:Shared) (Q:VK) (u:Value) (s':Shared):Prop :=
 ∃ v H',s'.os = s.os/\AllBare s'.gens/\Un (frs outer) [] H H' s.heap s'.heap/\HOk P w H' s'.heap/\RelV v u/\Q v H'
noncomputable def CR (CX:CXT) (outer:List Env) (P:Program) (w:World) (H:Hp) (s:Shared) (Q:VK) (E:XK) (r:Result) (s':Shared):Prop :=
 match r with
 | .ok (.ret u)=>CE outer P w H s Q u s'
 | .ok _=>False
 | .error e=>CX outer H s E e s'
structure FnOk (P:Program) (w:World) (K:PySem.W.Frag) (mg:Str->Option Value) (base:Heap) (CX:CXT) (k:Nat) (f:Addr) (fd:FuncData) (ps:List Str) (sp:Sp):Prop where
 len:∀ vs H Q E,sp vs H Q E->vs.length = ps.length
 run:∀ (A:Around) (outer:List Env) (s:Shared) (H:Hp) (args:Args) (us:List Value) (vs:List V) (Q:VK) (E:XK),Room k A->Env0 P w K mg base A outer s H->BindsTo s fd args (ps.zip us)->Vals vs us->sp vs H Q E ->
  codeAny (model P w) A (.call (.ref f) args) (CR CX outer P w H s Q E) s
theorem Env0.make {P:Program} {w:World} {K:PySem.W.Frag} {mg:Str->Option Value} {base:Heap} {A:Around} {outer:List Env} {s:Shared} {H:Hp} (e:Env0 P w K mg base A outer s H) (C:Addr) (us:List Value) (kw:List (Str × Value)) :
  Env0 P w K mg base (A.under (.builtin "type.__call__" ⟨.ref C :: us,kw⟩)) outer s H:=⟨by first | exact e.frames | (simpa [Around.under,Code.envs,Code.isFrame,pushEnvs] using e.frames),e.mod,e.bs,e.bsz,e.funs,e.frf,e.hok,e.bare⟩
section
variable {X:Cx} {pins:List (Addr × Obj)} {σ:St} {H:Hp} {s s':Shared}
theorem Inv.env0 (I:Inv X pins σ H s):Env0 X.prog X.w X.K X.mg X.base X.A X.stack s H :=
 ⟨I.ok.frames,I.ok.mod,I.bs,Nat.le_trans I.ok.bsz I.sz,I.stack,I.stkFree,I.hok,I.bare⟩
theorem Inv.after {Q:VK} {u:Value} (I:Inv X pins σ H s) (h:CE X.stack X.prog X.w H s Q u s'):EP X pins σ Q u s':=by
 refine o2_6 h fun v H' os bare un hok r q=>?_
 try clear h
 obtain ⟨hh,g,d,t,os'⟩:=s'
 obtain rfl:os' = s.os:=os
 exact ⟨v,H',I.call (h':=hh) (g':=g) (d':=d) (t':=t) (ch:=[]) un hok bare (fun b z=>absurd z (by simp)),r,q⟩
end
noncomputable def tCall (sp:Sp) (dvs:List V) (E:XK) (t:TA):TE:=fun σ H Q=>t σ H fun vs H1=>sp (vs ++ dvs) H1 Q E
noncomputable def tMeth (C:Addr) (m:Str) (sp:Sp) (dvs:List V) (E:XK) (ta:TE) (t:TA):TE:=fun σ H Q=>ta σ H fun x H1=>∃ a dx fs,x = .ref a/\H1 a = some (.ins C dx fs)/\fs.lookup m = none /\
 t σ H1 fun vs H2=>sp (x :: (vs ++ dvs)) H2 Q E
noncomputable def tMake (C:Addr) (sp:Sp) (dvs:List V) (E:XK) (t:TA):TE:=fun σ H Q=>t σ H fun vs H1=>∀ x dx,H1 x = none->H1 dx = none->dx ≠ x ->
 sp (.ref x :: (vs ++ dvs)) (upd (upd H1 dx (.own x)) x (.ins C dx [])) (fun v H2=>v = .non/\Q (.ref x) H2) E
noncomputable def Binds (K:PySem.W.Frag) (fd:FuncData) (ps:List Str) (ds:List Value):Prop :=
 ∀ (s:Shared) (us:List Value),K.In s.heap->(us ++ ds).length = ps.length->BindsTo s fd ⟨us,[]⟩ (ps.zip (us ++ ds))
theorem Binds.all {K:PySem.W.Frag} {fd:FuncData} {ps:List Str} (h:∀ us:List Value,us.length = ps.length->bindArgs fd ⟨us,[]⟩ = pure (ps.zip us)):Binds K fd ps []:=fun s us _ hl=>by
 rw [List.append_nil] at hl ⊢
 exact .of_eq (h us hl)
noncomputable def Passes (CX:CXT) (X:Cx) (E:XK):Prop:=∀ (pins:List (Addr × Obj)) (σ:St) (H:Hp) (s:Shared) (e:Value) (s':Shared),Inv X pins σ H s->CX X.stack H s E e s'->X.xe e s'
section
variable {X:Cx} {CX:CXT} {k:Nat} {f C:Addr} {fd:FuncData} {ps:List Str} {sp:Sp} {dvs:List V} {ds:List Value} {E:XK} {x m:Str} {p pos apos:Pos} {e o:Expr} {es:List Expr} {ta:TE} {t:TA}
theorem run_fn {pins:List (Addr × Obj)} {σ:St} {H:Hp} {s:Shared} {Q:VK} {us:List Value} {vs:List V} (F:FnOk X.prog X.w X.K X.mg X.base CX k f fd ps sp) (hr:Room k X.A) (hb:Binds X.K fd ps ds) (hd:Vals dvs ds) (hx:Passes CX X E)
  (I:Inv X pins σ H s) (r:Vals vs us) (h:sp (vs ++ dvs) H Q E):wpAny (model X.prog X.w) X.A (call (.ref f) us) (EP X pins σ Q) X.xe s:=by
 have r2:Vals (vs ++ dvs) (us ++ ds):=r.append hd
 have hl:(us ++ ds).length = ps.length:=by rw [<-r2.length]; exact F.len _ _ _ _ h
 refine wpAny_call (codeAny_mono (F.run X.A X.stack s H ⟨us,[]⟩ (us ++ ds) (vs ++ dvs) Q E hr I.env0 (hb s us I.kIn hl) r2 h) fun r s' hq=>?_)
 cases r with
 | error e=>exact hx pins σ H s e s' I hq
 | ok fl =>
  cases fl with
  | ret u=>exact I.after hq
  | next=>exact False.elim hq
  | brk=>exact False.elim hq
  | cont=>exact False.elim hq
theorem pe_call (F:FnOk X.prog X.w X.K X.mg X.base CX k f fd ps sp) (hr:Room k X.A) (hg:Gl X x) (hm:X.mg x = some (.ref f)) (hk:PySem.W.keepIn X.K (.ref f) = true) (hb:Binds X.K fd ps ds) (hd:Vals dvs ds) (hx:Passes CX X E)
  (ha:PA X (e :: es) t) (hdb:(x == ("__debug__":Str)) = false:=by decide) (he:starEach (e :: es) X.env = (false,eval e X.env) :: starEach es X.env:=by rfl) (hpl:(backTo pos (starEach es X.env)).any (·.1) = false:=by rfl) :
  PE X (.Call (.Name x p) (e :: es) [] pos) (tCall sp dvs E t):=by
 intro pins s σ H Q I h
 refine wpAny_Call_Name_kw (ld_glob I hg hm ?_ hdb)
 refine PySem.W.callWith_K (h₀:=X.base) I.ok.mod.kin hk (thn (ha pos pins s σ H _ I h) fun us s1 ⟨vs,H1,I1,r,q⟩=>⟨I1.kIn,?_⟩) he hpl
 exact run_fn F hr hb hd hx I1 r q
theorem pe_meth {pl:Sem Bool} (he:PE X o ta) (c:Cls X.K C) (hm:Meth X.K C m f) (F:FnOk X.prog X.w X.K X.mg X.base CX k f fd ps sp) (hr:Room k X.A) (hb:Binds X.K fd ps ds) (hd:Vals dvs ds) (hx:Passes CX X E) (ha:PA X (e :: es) t)
  (hst:starEach (e :: es) X.env = (false,eval e X.env) :: starEach es X.env:=by rfl) (hpl:(backTo pos (starEach es X.env)).any (·.1) = false:=by rfl)
  (ht:eval (.Call (.Attribute o m apos) (e :: es) [] pos) X.env = (do
   let ov <-eval o X.env
   standAt apos.atName
   let (f,first) <-holding [ov] (getMethod ov m pl)
   callWith pos f first (backTo pos (starEach (e :: es) X.env)) (backToKw pos (keywordEach [] X.env))):=by rfl) :
  PE X (.Call (.Attribute o m apos) (e :: es) [] pos) (tMeth C m sp dvs E ta t):=by
 intro pins s σ H Q I h
 refine PySem.W.methodCall_KW (pl:=pl) (thn (he pins s σ H _ I h) fun u s1 zz=>?_) ht
 obtain ⟨x,H1,I1,rx,a,dx,fs,ex,ea,l,q⟩:=zz
 subst ex
 obtain rfl:u = Value.ref a:=rx
 refine getmeth_ok I1 ea c hm l ?_
 refine PySem.W.callWith_K (first:=[.ref a]) (h₀:=X.base) I.ok.mod.kin hm.kp (thn (ha pos pins s1 σ H1 _ I1 q) fun us s2 ⟨vs,H2,I2,r,q2⟩=>⟨I2.kIn,?_⟩) hst hpl
 exact run_fn (us:=.ref a :: us) (vs:=.ref a :: vs) F hr hb hd hx I2 (.cons rfl r) q2
theorem pe_meth0 {pl:Sem Bool} (he:PE X o ta) (c:Cls X.K C) (hm:Meth X.K C m f) (F:FnOk X.prog X.w X.K X.mg X.base CX k f fd ps sp) (hr:Room k X.A) (hb:Binds X.K fd ps ds) (hd:Vals dvs ds) (hx:Passes CX X E)
  (ht:eval (.Call (.Attribute o m apos) [] [] pos) X.env = (do
   let ov <-eval o X.env
   standAt apos.atName
   let (f,first) <-holding [ov] (getMethod ov m pl)
   callWith pos f first (backTo pos (starEach [] X.env)) (backToKw pos (keywordEach [] X.env))):=by rfl) :
  PE X (.Call (.Attribute o m apos) [] [] pos) (tMeth C m sp dvs E ta tNil):=by
 intro pins s σ H Q I h
 refine PySem.W.methodCall_KW (pl:=pl) (thn (he pins s σ H _ I h) fun u s1 zz=>?_) ht
 obtain ⟨x,H1,I1,rx,a,dx,fs,ex,ea,l,q⟩:=zz
 subst ex
 obtain rfl:u = Value.ref a:=rx
 refine getmeth_ok I1 ea c hm l ?_
 exact PySem.W.callWith_K0 (first:=[.ref a]) I1.kIn hm.kp (run_fn (us:=[.ref a]) (vs:=[.ref a]) F hr hb hd hx I1 (.cons rfl .nil) q)
structure Mk (K:PySem.W.Frag) (C f:Addr):Prop where
 makes:PySem.W.makesIn K C = true
 init:PySem.W.findIn K (.ref C) "__init__" = some (some (.ref f))
 fn:PySem.W.isFn K (.ref f) = true
 kp:PySem.W.keepIn K (.ref C) = true
theorem run_make {pins:List (Addr × Obj)} {σ:St} {H:Hp} {s:Shared} {Q:VK} {us:List Value} {vs:List V} (M:Mk X.K C f) (F:FnOk X.prog X.w X.K X.mg X.base CX k f fd ps sp) (hr:Room (k + 1) X.A) (hb:Binds X.K fd ps ds) (hd:Vals dvs ds)
  (hx:Passes CX X E) (I:Inv X pins σ H s) (r:Vals vs us)
  (h:∀ x dx,H x = none->H dx = none->dx ≠ x->sp (.ref x :: (vs ++ dvs)) (upd (upd H dx (.own x)) x (.ins C dx [])) (fun v H2=>v = .non/\Q (.ref x) H2) E) :
  wpAny (model X.prog X.w) X.A (call (.ref C) us) (EP X pins σ Q) X.xe s:=by
 have hq:=h (s.heap.objs.size + 1) s.heap.objs.size (I.hok.fresh (Nat.le_succ _)) (I.hok.fresh (Nat.le_refl _)) (Nat.ne_of_lt (Nat.lt_succ_self _))
 have I2:=Inv.made (C:=C) I
 have r2:Vals (V.ref (s.heap.objs.size + 1) :: (vs ++ dvs)) (Value.ref (s.heap.objs.size + 1) :: (us ++ ds)):=.cons rfl (r.append hd)
 have hl:(Value.ref (s.heap.objs.size + 1) :: us ++ ds).length = ps.length:=by
  have e:=r2.length
  rw [F.len _ _ _ _ hq] at e
  exact e.symm
 refine wpAny_call (make_map (f:=f) I.kIn M.makes M.init (beq_iff_eq.mp M.fn) (codeAny_mono (F.run _ X.stack _ _ ⟨Value.ref (s.heap.objs.size + 1) :: us,[]⟩ (Value.ref (s.heap.objs.size + 1) :: (us ++ ds)) _ _ E (hr.make C us [])
  (I2.env0.make C us []) (hb _ (Value.ref (s.heap.objs.size + 1) :: us) I2.kIn hl) r2 hq) fun r s' hq'=>?_))
 cases r with
 | error e=>exact hx pins σ _ _ e s' I2 hq'
 | ok fl =>
  cases fl with
  | ret u =>
   refine o2_4 (I2.after hq') fun v H' I3 rv ev q3=>?_
   subst ev
   exact ⟨rv,⟨V.ref (s.heap.objs.size + 1),H',I3,rfl,q3⟩⟩
  | next=>exact False.elim hq'
  | brk=>exact False.elim hq'
  | cont=>exact False.elim hq'
theorem pe_make (M:Mk X.K C f) (F:FnOk X.prog X.w X.K X.mg X.base CX k f fd ps sp) (hr:Room (k + 1) X.A) (hg:Gl X x) (hm:X.mg x = some (.ref C)) (hb:Binds X.K fd ps ds) (hd:Vals dvs ds) (hx:Passes CX X E)
  (ha:PA X (e :: es) t) (hdb:(x == ("__debug__":Str)) = false:=by decide) (he:starEach (e :: es) X.env = (false,eval e X.env) :: starEach es X.env:=by rfl) (hpl:(backTo pos (starEach es X.env)).any (·.1) = false:=by rfl) :
  PE X (.Call (.Name x p) (e :: es) [] pos) (tMake C sp dvs E t):=by
 intro pins s σ H Q I h
 refine wpAny_Call_Name_kw (ld_glob I hg hm ?_ hdb)
 refine PySem.W.callWith_K (h₀:=X.base) I.ok.mod.kin M.kp (thn (ha pos pins s σ H _ I h) fun us s1 ⟨vs,H1,I1,r,q⟩=>⟨I1.kIn,?_⟩) he hpl
 exact run_make M F hr hb hd hx I1 r q
end
structure FnScope (N P:List Str) (sc:Scope):Prop where
 kind:sc.kind = .function
 co:sc.isCoroutine = false
 gen:sc.isGenerator = false
 nd:N.Nodup
 pre:N.take P.length = P
 par:∀ x ∈ P,sc.names.lookup x = some .local\/sc.names.lookup x = some .cell
 nofree:∀ y ∈ sc.names,y.2 ≠ .free
theorem bindL_out {kindOf:Str->Option NameKind} {x:Str}:∀ {binds:List (Str × Value)} {m:Str->Option Value},(∀ v,(x,v) ∉ binds)->bindL kindOf binds m x = m x
 | [],_,_=>rfl
 | (n,v) :: r,m,h=>by
  unfold bindL
  rw [bindL_out fun w hw=>h w (List.mem_cons_of_mem _ hw)]
  split
  ·have:x ≠ n:=by rintro rfl; exact h v List.mem_cons_self
   simp [this]
  ·rfl
theorem bindC_out {kindOf:Str->Option NameKind} {x:Str}:∀ {binds:List (Str × Value)} {m:Str->Option Value},(∀ v,(x,v) ∉ binds)->bindC kindOf binds m x = m x
 | [],_,_=>rfl
 | (n,v) :: r,m,h=>by
  unfold bindC
  rw [bindC_out fun w hw=>h w (List.mem_cons_of_mem _ hw)]
  split
  ·rfl
  ·have:x ≠ n:=by rintro rfl; exact h v List.mem_cons_self
   simp [this]
theorem bindL_get {kindOf:Str->Option NameKind} {x:Str} {v:Value}:∀ {P:List Str} {vs:List Value} {i:Nat} {m:Str->Option Value},P.Nodup->P[i]? = some x->vs[i]? = some v->kindOf x = some .local ->
  bindL kindOf (P.zip vs) m x = some v
 | [],_,_,_,_,h,_,_=>by simp at h
 | _ :: _,[],_,_,_,_,h,_=>by simp at h
 | p :: P,w :: vs,0,m,nd,h1,h2,hk=>by
  simp at h1 h2; subst h1; subst h2
  show bindL kindOf ((p,w) :: P.zip vs) m p = _
  unfold bindL
  rw [bindL_out fun v hv=>(List.nodup_cons.mp nd).1 (List.of_mem_zip hv).1,if_pos hk]
  simp
 | p :: P,w :: vs,i + 1,m,nd,h1,h2,hk=>by
  show bindL kindOf ((p,w) :: P.zip vs) m x = _
  unfold bindL
  exact bindL_get (i:=i) (List.nodup_cons.mp nd).2 (by simpa using h1) (by simpa using h2) hk
theorem bindC_get {kindOf:Str->Option NameKind} {x:Str} {v:Value}:∀ {P:List Str} {vs:List Value} {i:Nat} {m:Str->Option Value},P.Nodup->P[i]? = some x->vs[i]? = some v->kindOf x ≠ some .local ->
  bindC kindOf (P.zip vs) m x = some v
 | [],_,_,_,_,h,_,_=>by simp at h
 | _ :: _,[],_,_,_,_,h,_=>by simp at h
 | p :: P,w :: vs,0,m,nd,h1,h2,hk=>by
  simp at h1 h2; subst h1; subst h2
  show bindC kindOf ((p,w) :: P.zip vs) m p = _
  unfold bindC
  rw [bindC_out fun v hv=>(List.nodup_cons.mp nd).1 (List.of_mem_zip hv).1,if_neg hk]
  simp
 | p :: P,w :: vs,i + 1,m,nd,h1,h2,hk=>by
  show bindC kindOf ((p,w) :: P.zip vs) m x = _
  unfold bindC
  exact bindC_get (i:=i) (List.nodup_cons.mp nd).2 (by simpa using h1) (by simpa using h2) hk
noncomputable def start (N:List Str) (vs:List V):St:=vs.map some ++ List.replicate (N.length - vs.length) none
noncomputable def cxOf (CX:CXT) (P:Program) (w:World) (K:PySem.W.Frag) (mg:Str->Option Value) (base:Heap) (N:List Str) (qual:Str) (scope:Scope) (f:Addr) (cd:Value) (A:Around) (outer:List Env) (s:Shared) (H:Hp) (E:XK):Cx where
 prog:=P
 w:=w
 K:=K
 mg:=mg
 base:=base
 A:=A.deeper (envOfC qual scope s.heap.objs.size f cd)
 N:=N
 s₀:=s
 H₀:=H
 env:=envOfC qual scope s.heap.objs.size f cd
 outer:=outer
 stack:=envOfC qual scope s.heap.objs.size f cd :: outer
 ex:=[]
 calm:=true
 fn:=fun _=>true
 pn:=[]
 xe:=fun e s'=>wpAny (model P w) (A.deeper (envOfC qual scope s.heap.objs.size f cd)) (leaving (envOfC qual scope s.heap.objs.size f cd) e) (fun _ s''=>CX outer H s E e s'') (fun e' s''=>CX outer H s E e' s'') s'
theorem cell_has {sc:Scope} {n:Nat} {x:Str} (h:sc.names.lookup x = some .cell):∃ c,(cellsFrom n sc.names []).lookup x = some c:=by
 have q:=PySem.W.cellsFrom_some sc.names n [] (.inl h)
 exact Option.isSome_iff_exists.mp q
theorem inv_start {CX:CXT} {P:Program} {w:World} {K:PySem.W.Frag} {mg:Str->Option Value} {base:Heap} {N ps:List Str} {qual:Str} {scope:Scope} {f:Addr} {cd:Value} {A:Around} {outer:List Env} {s s1:Shared} {H:Hp} {E:XK} {us:List Value} {vs:List V}
  (S:FnScope N ps scope) (hd:A.handled = none) (e0:Env0 P w K mg base A outer s H) (hl:vs.length = ps.length) (r:Vals vs us)
  (x:InCallC s s.heap.objs.size (bindL (envOfC qual scope s.heap.objs.size f cd).kindOf (ps.zip us) fun _=>none) (cellsFrom (s.heap.objs.size + 1) scope.names []) (bindC (envOfC qual scope s.heap.objs.size f cd).kindOf (ps.zip us) fun _=>none) s1) :
  Inv (cxOf CX P w K mg base N qual scope f cd A outer s H E) [] (start N vs) H s1:=by
 have hpl:ps.length<=N.length:=by have:=congrArg List.length S.pre; rw [List.length_take] at this; lia
 refine o2_2 x.done fun h1 tk zq167 hk=>?_
 subst zq167
 have noA:∀ b:Addr,b ∉ (cxOf CX P w K mg base N qual scope f cd A outer s H E).ex:=fun b z=>absurd (show b ∈ ([]:List Addr) from z) (by simp)
 refine ⟨⟨e0.mod,S.kind,rfl,rfl,Nat.le_refl _,fun y z c h1 h2=>?_,fun y hy=>?_,fun y c _ h=>?_,fun _=>hd,Around.frames_deeper e0.frames,.inr ⟨rfl,rfl⟩,fun b z=>absurd z (noA b),e0.bs,e0.bsz,fun b _ _=>noA b,fun b z=>absurd z (noA b),e0.funs,e0.frf⟩,
  rfl,e0.bare,Un.kept hk,⟨_,x.toInCall.ns,fun i y v h1 h2 h3=>?_⟩,fun y c h=>⟨_,x.cell y c h⟩,e0.hok.fresh (Nat.le_refl _),fun y c h=>?_,fun p hp=>absurd (show p ∈ ([]:List (Addr × Obj)) from hp) (by simp),e0.hok.kept hk,?_⟩
 ·exact name_of_addr x.apart (PySem.mem_of_lookup h1) (PySem.mem_of_lookup h2)
 ·have hy:scope.names.lookup y = some .cell\/scope.names.lookup y = some .free:=hy
  rcases hy with hy | hy
  ·exact cell_has hy
  ·exact absurd rfl (S.nofree _ (PySem.mem_of_lookup hy))
 ·exact Nat.le_of_lt (x.above y c (PySem.mem_of_lookup h))
 ·have hi:i < vs.length:=by
   unfold start at h2
   by_cases hi:i < vs.length
   ·exact hi
   ·rw [List.getElem?_append_right (by simpa using hi)] at h2
    rw [List.getElem?_replicate] at h2
    split at h2 <;> cases h2
  have ha:vs[i]? = some v:=by
   unfold start at h2
   rw [List.getElem?_append_left (by simpa using hi),List.getElem?_map] at h2
   cases e:vs[i]? with
   | none=>rw [e] at h2; cases h2
   | some a=>rw [e] at h2; cases h2; rfl
  refine o1_2 (r.get ha) fun u hu rv=>?_
  have hp:ps[i]? = some y:=by
   rw [<-S.pre,List.getElem?_take_of_lt (by lia)]; exact h1
  have ndP:ps.Nodup:=by rw [<-S.pre]; exact S.nd.sublist (List.take_sublist _ _)
  refine ⟨u,rv,?_⟩
  rcases S.par y (List.mem_of_getElem? hp) with k | k
  ·exact .inl ⟨k,bindL_get ndP hp hu k⟩
  ·obtain ⟨c,e⟩:=cell_has (n:=s.heap.objs.size + 1) k
   refine .inr ⟨.inl k,c,e,?_⟩
   have q:=x.cell y c e
   rw [bindC_get ndP hp hu (by show scope.names.lookup y ≠ _; rw [k]; decide)] at q
   exact q
 ·exact e0.hok.fresh (Nat.le_of_lt (x.above y c (PySem.mem_of_lookup h)))
 ·unfold start
  show _ = N.length
  rw [List.length_append,List.length_map,List.length_replicate]
  lia
theorem fn_of {CX:CXT} {P:Program} {w:World} {K:PySem.W.Frag} {mg:Str->Option Value} {base:Heap} {k:Nat} {f:Addr} {name qual:Str} {params:Arguments} {body:List Stmt} {scope:Scope} {dV kV doc pm cdv ct oc:Value} {an od:Option Addr}
  {osl:Array (Option Value)} {N ps:List Str} {sp:Sp} (lk:K.lookup f = some ⟨oc,od,.func (PySem.W.fnOf name qual params body scope dV kV doc pm an cdv ct),osl⟩) (hcd:PySem.W.codeIn K cdv qual = true) (S:FnScope N ps scope)
  (len:∀ vs H Q E,sp vs H Q E->vs.length = ps.length)
  (hbody:∀ (A:Around) (outer:List Env) (s:Shared) (H:Hp) (vs:List V) (Q:VK) (E:XK),Room k (A.deeper (envOfC qual scope s.heap.objs.size f cdv))->sp vs H Q E ->
   ∃ t,PSs (cxOf CX P w K mg base N qual scope f cdv A outer s H E) body t/\t { nx:=fun _ H'=>Q .non H',rt:=Q } (start N vs) H) :
  FnOk P w K mg base CX (k + 1) f (PySem.W.fnOf name qual params body scope dV kV doc pm an cdv ct) ps sp:=by
 refine ⟨len,fun A outer s H args us vs Q E hr e0 hb r hsp=>?_⟩
 have hl:=len _ _ _ _ hsp
 have KX:K.In s.heap:=e0.mod.kin.keeps fun b o e=>(e0.bs b o e).1
 have lim:s.heap.NoLimit:=e0.mod.nolimit.keeps fun b o e=>(e0.bs b o e).1
 have hkind:∀ y ∈ ps.zip us,scope.names.lookup y.1 = some .local\/(scope.names.lookup y.1 = some .cell/\((cellsFrom (s.heap.objs.size + 1) scope.names []).lookup y.1).isSome = true):=fun ⟨n,v⟩ hy=>by
  rcases S.par n (List.of_mem_zip hy).1 with q | q
  ·exact .inl q
  ·exact .inr ⟨q,PySem.W.cellsFrom_some _ _ _ (.inl q)⟩
 refine codeAny_call_function hr.depth (KX _ _ lk) rfl S.co S.gen rfl (PySem.W.codeRec_of KX hcd) (hb _ _ _ _ ?_)
 refine wpAny_newFunctionEnv_cells S.kind hkind fun env he s1 x=>?_
 subst he
 refine ⟨lim.keeps x.toInCall.keep,codeAny_func ?_⟩
 refine o1_2 (hbody A outer s H vs Q E (hr.deeper _) hsp) fun t ht hq=>?_
 have I:Inv (cxOf CX P w K mg base N qual scope f cdv A outer s H E) [] (start N vs) H s1:=inv_start S hr.hd e0 hl r x
 refine wpAny_mono (ht [] s1 (start N vs) H _ I hq) (fun fl s' hs=>?_) fun e s' hs=>hs
 have fin:∀ {σ':St} {H':Hp} {v:V} {u:Value},Inv (cxOf CX P w K mg base N qual scope f cdv A outer s H E) [] σ' H' s'->RelV v u->Q v H'->CE outer P w H s Q u s' :=
  fun {σ' H' v u} J rv q=>⟨v,H',J.os,J.bare,J.base,J.hok,rv,q⟩
 cases fl with
 | ret u =>
  refine o3_3 hs fun v σ' H' J rv q=>?_
  try clear hs
  exact fin J rv q
 | next =>
  refine o2_2 hs fun σ' H' J q=>?_
  try clear hs
  exact fin (v:=V.non) (u:=Value.none) J rfl q
 | brk =>
  refine o2_2 hs fun _ _ _ q=>?_
  try clear hs
  exact False.elim q
 | cont =>
  refine o2_2 hs fun _ _ _ q=>?_
  try clear hs
  exact False.elim q
end L2
namespace L2
open PySem PySem.Spec PyProof.Rows
section
variable {X:Cx} {x:Str} {p pos:Pos} {e:Expr} {es:List Expr} {t:TA} {id T:String} {r:List V->Hp->VK->Prop}
noncomputable def tCB (r:List V->Hp->VK->Prop) (t:TA):TE:=fun σ H Q=>t σ H fun vs H1=>r vs H1 Q
theorem pe_callB (hc:CallR X (.builtin id) r) (hg:Gl X x) (hm:X.mg x = none) (hv:bootBuiltins x = some (.builtin id)) (ha:PA X (e :: es) t) (hn:x ≠ "__name__":=by decide) (hdb:(x == ("__debug__":Str)) = false:=by decide)
  (he:starEach (e :: es) X.env = (false,eval e X.env) :: starEach es X.env:=by rfl) (hpl:(backTo pos (starEach es X.env)).any (·.1) = false:=by rfl):PE X (.Call (.Name x p) (e :: es) [] pos) (tCB r t):=by
 intro pins s σ H Q I h
 refine wpAny_Call_Name_kw (ld_blt I hg hm hv ?_ hn hdb)
 exact PyProof.Rows.callWith_builtin1 (thn (ha pos pins s σ H _ I h) fun us s1 ⟨vs,H1,I1,r1,q1⟩=>hc pins s1 σ H1 vs us Q I1 r1 q1) he hpl
theorem pe_callTy (hc:CallR X (.type T) r) (hg:Gl X x) (hm:X.mg x = none) (hv:bootBuiltins x = some (.type T)) (ha:PA X (e :: es) t) (hn:x ≠ "__name__":=by decide) (hdb:(x == ("__debug__":Str)) = false:=by decide)
  (he:starEach (e :: es) X.env = (false,eval e X.env) :: starEach es X.env:=by rfl) (hpl:(backTo pos (starEach es X.env)).any (·.1) = false:=by rfl):PE X (.Call (.Name x p) (e :: es) [] pos) (tCB r t):=by
 intro pins s σ H Q I h
 refine wpAny_Call_Name_kw (ld_blt I hg hm hv ?_ hn hdb)
 exact PyProof.Rows.callWith_type1 (thn (ha pos pins s σ H _ I h) fun us s1 ⟨vs,H1,I1,r1,q1⟩=>hc pins s1 σ H1 vs us Q I1 r1 q1) he hpl
theorem pe_callTy0 (hc:CallR X (.type T) r) (hg:Gl X x) (hm:X.mg x = none) (hv:bootBuiltins x = some (.type T)) (hn:x ≠ "__name__":=by decide) (hdb:(x == ("__debug__":Str)) = false:=by decide) :
  PE X (.Call (.Name x p) [] [] pos) (tCB r tNil):=by
 intro pins s σ H Q I h
 refine wpAny_Call_Name_kw (ld_blt I hg hm hv ?_ hn hdb)
 exact PyProof.Rows.callWith_type0 (hc pins s σ H [] [] Q I .nil h)
end
end L2
namespace HT
open PySem PyProof.Rows
section
variable {prog:Program} {w:World} {A:Around} {E:Value->Shared->Prop} {s:Shared}
noncomputable def sIx (n d:Nat):Option Int->Nat
 | none=>d
 | some v=>if v < 0 then (v + (n:Int)).toNat else min v.toNat n
theorem sIx_none (n d:Nat):sIx n d none = d:=rfl
theorem sIx_nat (n d k:Nat):sIx n d (some (k:Int)) = min k n:=by
 show (if (k:Int) < 0 then ((k:Int) + (n:Int)).toNat else min (k:Int).toNat n) = min k n
 rw [if_neg (by lia),Int.toNat_natCast]
end
end HT
namespace L2
open PySem PySem.Spec PyProof.Rows
noncomputable abbrev TO:=St->Hp->(Option Int->Hp->Prop)->Prop
noncomputable def PO (X:Cx) (e:Option Expr) (t:TO):Prop :=
 ∀ (pins:List (Addr × Obj)) (s:Shared) (σ:St) (H:Hp) (Q:Option Int->Hp->Prop),Inv X pins σ H s->t σ H Q ->
  wpAny (model X.prog X.w) X.A (evalPart e X.env) (fun u s'=>∃ o H',Inv X pins σ H' s'/\IsPart u o/\Q o H') X.xe s
noncomputable def tNoPart:TO:=fun _ H Q=>Q none H
noncomputable def tPart (t:TE):TO:=fun σ H Q=>t σ H fun x H1=>∃ i,x = .int i/\Q (some i) H1
section
variable {X:Cx} {e:Expr} {te:TE} {lo hi:Option Expr} {tl th:TO} {pos p2:Pos}
theorem po_none:PO X none tNoPart:=by
 intro pins s σ H Q I h
 rw [evalPart_none]
 exact wpAny_pure ⟨none,H,I,.none,h⟩
theorem po_some (h:PE X e te):PO X (some e) (tPart te):=by
 intro pins s σ H Q I hw
 rw [evalPart_some]
 refine thn (h pins s σ H _ I hw) fun u s1 ⟨x,H1,I1,r1,q1⟩=>?_
 refine o1_2 q1 fun i zq178 q=>?_
 try clear q1
 subst zq178
 refine o1_1 r1 fun t zq179=>?_
 try clear r1
 subst zq179
 exact ⟨some i,H1,I1,.int i t,q⟩
noncomputable def SlR (X:Cx) (r:V->Option Int->Option Int->Hp->VK->Prop):Prop :=
 ∀ (pins:List (Addr × Obj)) (s:Shared) (σ:St) (H:Hp) (x:V) (v vl vu:Value) (lo hi:Option Int) (sl:Addr) (Q:VK),Inv X pins σ H s->RelV x v->s.heap.IsSliceOf sl vl vu .none->IsPart vl lo->IsPart vu hi->r x lo hi H Q ->
  ∃ T id,typeLookup (.type T) "__getitem__" = pure (some (.builtin id))/\s.TypeIs v T/\wpAny (model X.prog X.w) X.A (getItem v (.ref sl)) (EP X pins σ Q) X.xe s
noncomputable def tSl (r:V->Option Int->Option Int->Hp->VK->Prop) (te:TE) (tl th:TO):TE:=fun σ H Q=>te σ H fun x H1=>tl σ H1 fun l H2=>th σ H2 fun u H3=>r x l u H3 Q
theorem pe_slice {r:V->Option Int->Option Int->Hp->VK->Prop} (hr:SlR X r) (he:PE X e te) (hl:PO X lo tl) (hu:PO X hi th):PE X (.Subscript e (.Slice lo hi none p2) pos) (tSl r te tl th):=by
 intro pins s σ H Q I h
 refine Subscript_ (thn (he pins s σ H _ I h) fun v s1 zz=>?_)
 refine o2_3 zz fun x H1 I1 r1 q1=>?_
 try clear zz
 refine wpAny_Slice (thn (hl pins s1 σ H1 _ I1 q1) fun vl s2 ⟨l,H2,I2,pl,q2⟩=>thn (hu pins s2 σ H2 _ I2 q2) fun vu s3 zz=>?_)
 refine o2_3 zz fun u H3 I3 pu q3=>?_
 try clear zz
 rw [evalPart_none]
 refine wpAny_pure ?_
 have I4:Inv X pins σ H3 { s3 with heap:=s3.heap.push { cls:=.type "slice",data:=.fields #[vl,vu,.none] } }:=I3.kept (t':=s3.toks) fun b ob q=>Heap.get?_push_of_some _ q
 obtain ⟨T,id,hT,ht,hg⟩:=hr pins { s3 with heap:=s3.heap.push { cls:=.type "slice",data:=.fields #[vl,vu,.none] } } σ H3 x v vl vu l u s3.heap.objs.size Q I4 r1 (Heap.IsSliceOf.new ..) pl pu q3
 show wpAny (model X.prog X.w) X.A (subscriptTail e (.Slice lo hi none p2) v (.ref s3.heap.objs.size)) (EP X pins σ Q) X.xe { s3 with heap:=s3.heap.push { cls:=.type "slice",data:=.fields #[vl,vu,.none] } }
 exact tail_any (ops:=[.ref s3.heap.objs.size,v]) ht hT hg (by with_unfolding_all rfl)
noncomputable def cutV (xs:List V) (lo hi:Option Int):List V:=(xs.drop (HT.sIx xs.length 0 lo)).take (HT.sIx xs.length xs.length hi - HT.sIx xs.length 0 lo)
theorem cutV_length (xs:List V) (lo hi:Option Int):(cutV xs lo hi).length<=xs.length:=by
 unfold cutV
 rw [List.length_take,List.length_drop]
 lia
end
end L2
namespace L2
open PySem PySem.Spec PyProof.Rows
noncomputable def ixN (n:Nat) (i:Int):Option Nat:=if 0<=i then (if i < n then some i.toNat else none) else if -(n:Int)<=i then some (i + n).toNat else none
noncomputable def atI {α:Type} (xs:List α) (i:Int):Option α:=(ixN xs.length i).bind fun j=>xs[j]?
theorem ixN_seq {n:Nat} {i:Int} {j:Nat} (h:ixN n i = some j):seqIndex? i n = some j/\j < n/\-(n:Int)<=i/\i < n:=by
 unfold ixN at h
 by_cases h0:0<=i
 ·rw [if_pos h0] at h
  by_cases h1:i < n
  ·rw [if_pos h1] at h
   have e:i.toNat = j:=Option.some.inj h
   exact ⟨by rw [seqIndex_of h0 h1,e],by lia,by lia,h1⟩
  ·rw [if_neg h1] at h; cases h
 ·rw [if_neg h0] at h
  by_cases h1:-(n:Int)<=i
  ·rw [if_pos h1] at h
   have e:(i + n).toNat = j:=Option.some.inj h
   exact ⟨by rw [seqIndex_neg (by lia) h1,e],by lia,h1,by lia⟩
  ·rw [if_neg h1] at h; cases h
theorem atI_get {α:Type} {xs:List α} {i:Int} {v:α} (h:atI xs i = some v):∃ j,seqIndex? i xs.length = some j/\xs[j]? = some v/\j < xs.length/\-(xs.length:Int)<=i/\i < xs.length:=by
 unfold atI at h
 cases e:ixN xs.length i with
 | none=>rw [e] at h; cases h
 | some j =>
  rw [e] at h
  refine o0_4 (ixN_seq e) fun h1 h2 h3 h4=>?_
  exact ⟨j,h1,h,h2,h3,h4⟩
theorem atI_nat {α:Type} {xs:List α} {j:Nat} {v:α} (h:xs[j]? = some v):atI xs (j:Int) = some v:=by
 have hj:j < xs.length:=(List.getElem?_eq_some_iff.mp h).1
 have e:ixN xs.length (j:Int) = some j:=by
  unfold ixN
  rw [if_pos (by lia),if_pos (by lia)]; simp
 unfold atI; rw [e]; exact h
noncomputable def PlainIx (b:Expr):Prop:=∀ o i,subscripted b false o i = operate [o,i] (getItem o i)
noncomputable def IxR (X:Cx) (r:R2):Prop :=
 ∀ (value slice:Expr) (pins:List (Addr × Obj)) (s:Shared) (σ:St) (H:Hp) (x y:V) (v u:Value) (Q:VK),Inv X pins σ H s->RelV x v->RelV y u->r x y H Q ->
  subscripted slice false v u = operate [v,u] (getItem v u)->wpAny (model X.prog X.w) X.A (subscriptTail value slice v u) (EP X pins σ Q) X.xe s
noncomputable def MtR (X:Cx) (id:String) (r:V->List V->Hp->VK->Prop):Prop :=
 ∀ (pins:List (Addr × Obj)) (s:Shared) (σ:St) (H:Hp) (x:V) (xs:List V) (v:Value) (us:List Value) (Q:VK),Inv X pins σ H s->RelV x v->Vals xs us->r x xs H Q ->
  wpAny (model X.prog X.w) X.A (call (.builtin id) (v :: us)) (EP X pins σ Q) X.xe s
section
variable {X:Cx} {a b:Expr} {ta tb:TE} {pos:Pos}
theorem pe_ix {r:R2} (hr:IxR X r) (ha:PE X a ta) (hb:PE X b tb) (hs:PlainIx b):PE X (.Subscript a b pos) (tOp r ta tb):=by
 intro pins s σ H Q I h
 exact Subscript_ (binT ha hb I h fun v u s2 x y H2 I2 rx ry q=>hr a b pins s2 σ H2 x y v u Q I2 rx ry q (hs _ _))
noncomputable def rIxL (K:PySem.W.Frag):R2:=fun x y H Q=>∃ p xs i v,x = .ref p/\y = .int i/\SqL K H p xs/\atI xs i = some v/\Q v H
noncomputable def rIxT (K:PySem.W.Frag):R2:=fun x y H Q=>∃ p xs i v,x = .ref p/\y = .int i/\SqT K H p xs/\atI xs i = some v/\Q v H
noncomputable def rIxS:R2:=fun x y H Q=>∃ z i c,x = .str z/\y = .int i/\z.length<=sizeLine/\atI z.cps.toList i = some c/\Q (.str ⟨#[c]⟩) H
theorem ix_list:IxR X (rIxL X.K):=by
 intro value slice pins s σ H x y v u Q I rx ry h hs
 refine o4_5 h fun p xs i z zq187 zq188 hq he q=>?_
 try clear h
 subst zq187
 subst zq188
 cases rx
 refine o1_1 ry fun t zq189=>?_
 try clear ry
 subst zq189
 refine o1_3 (I.list hq) fun its r pl hz=>?_
 refine o1_5 (atI_get he) fun j h1 h2 h3 h4 h5=>?_
 refine o1_2 (r.get h2) fun w ew rw'=>?_
 have hl:=r.length
 have hn:=line63
 have fin:EP X pins σ Q w s:=⟨z,H,I,rw',q⟩
 by_cases h0:0<=i
 ·have hj:i.toNat = j:=by
   rw [seqIndex_of h0 h5] at h1
   exact Option.some.inj h1
  exact item_listR pl.isList h0 (by lia) (by rw [hj]; simpa using ew) fin hs
 ·have hj:(i + (its.toArray.size:Int)).toNat = j:=by
   rw [seqIndex_neg (by lia) h4] at h1
   rw [List.size_toArray,<-hl]
   exact Option.some.inj h1
  exact subscriptTail_builtinR (x:=w) pl.isList.typeIs slot_list_getitem.lookup
   (wpAny_getItem_list_neg (Q:=fun r s'=>r = w/\EP X pins σ Q r s') pl.isList (by lia) (by rw [List.size_toArray] <;> lia) (by lia) (by rw [hj]; simpa using ew) ⟨rfl,fin⟩) hs
theorem ix_tup:IxR X (rIxT X.K):=by
 intro value slice pins s σ H x y v u Q I rx ry h hs
 refine o4_5 h fun p xs i z zq190 zq191 hq he q=>?_
 try clear h
 subst zq190
 subst zq191
 cases rx
 refine o1_1 ry fun t zq192=>?_
 try clear ry
 subst zq192
 refine o1_3 (I.tuple hq) fun its r pl hz=>?_
 refine o1_5 (atI_get he) fun j h1 h2 h3 h4 h5=>?_
 refine o1_2 (r.get h2) fun w ew rw'=>?_
 have hl:=r.length
 have hn:=line63
 have fin:EP X pins σ Q w s:=⟨z,H,I,rw',q⟩
 exact subscriptTail_builtinR (x:=w) pl.typeIs slot_tuple_getitem.lookup
  (getItem_tuple (j:=j) (Q:=fun r s'=>r = w/\EP X pins σ Q r s') pl (by lia) (by lia) (by rw [List.size_toArray,<-hl]; exact h1) (by simpa using ew) ⟨rfl,fin⟩) hs
theorem ix_str:IxR X rIxS:=by
 intro value slice pins s σ H x y v u Q I rx ry h hs
 refine o3_5 h fun z i c zq193 zq194 hz he q=>?_
 try clear h
 subst zq193
 subst zq194
 refine o1_1 rx fun t zq195=>?_
 try clear rx
 subst zq195
 refine o1_1 ry fun t' zq196=>?_
 try clear ry
 subst zq196
 refine o1_5 (atI_get he) fun j h1 h2 h3 h4 h5=>?_
 have hl:z.cps.toList.length = z.length:=by simp [Str.length]
 rw [hl] at h1 h4 h5
 have hn:=line63
 exact tail_any (typeIs_str s z t) slot_str_getitem.lookup (getItem_str (c:=c) (by
  have e1:decide (i < -(2 ^ 63:Int)) = false:=decide_eq_false (by lia)
  have e2:decide (i ≥ 2 ^ 63) = false:=decide_eq_false (by lia)
  rw [e1,e2,Bool.or_false]) (by rw [h1]; simpa using h2) ⟨.str ⟨#[c]⟩,H,I.tok _,⟨_,rfl⟩,q⟩) hs
theorem mapSeq_set (its:List Value) (n j:Nat) (u:Value):Obj.mapSeq (·.setIfInBounds j u) { cls:=.type "list",data:=.seq its.toArray n } = { cls:=.type "list",data:=.seq (its.set j u).toArray n }:=by
 simp [Obj.mapSeq]
theorem Inv.lst {pins:List (Addr × Obj)} {σ:St} {H:Hp} {s:Shared} {p:Addr} {xs:List V} (I:Inv X pins σ H s) (h:H p = some (.lst xs)) :
  ∃ (its:List Value) (n:Nat),Vals xs its/\s.heap.get? p = some { cls:=.type "list",data:=.seq its.toArray n }/\xs.length<=sizeLine:=by
 obtain ⟨z,its,n,r,e⟩:=(I.hok p _ h)
 exact ⟨its,n,r,e,z⟩
theorem Inv.lstUpd {pins:List (Addr × Obj)} {σ:St} {H:Hp} {s:Shared} {p:Addr} {xs ys:List V} {its its':List Value} {n n':Nat} {f:Obj->Obj} (I:Inv X pins σ H s) (h:H p = some (.lst xs))
  (ho:s.heap.get? p = some { cls:=.type "list",data:=.seq its.toArray n }) (hf:f { cls:=.type "list",data:=.seq its.toArray n } = { cls:=.type "list",data:=.seq its'.toArray n' }) (r:Vals ys its') (hz:ys.length<=sizeLine) (t:Nat) :
  Inv X pins σ (upd H p (.lst ys)) { s with heap:=s.heap.update p f,toks:=t }:=by
 have e:(s.heap.update p f).get? p = some { cls:=.type "list",data:=.seq its'.toArray n' }:=by
  rw [Heap.get?_update_self f ho (by rw [hf] <;> rfl),hf]
 refine I.write (x:=p) (e:=p) (by rw [h]; trivial) (.inl rfl) (fun b u hb q=>(Heap.get?_update_other _ _ (Ne.symm hb)).trans q) ⟨_,e⟩ ?_
 exact ⟨hz,its',n',r,e⟩
noncomputable def rSetL:V->V->V->Hp->(Hp->Prop)->Prop:=fun o i v H Q=>∃ p xs k j,o = .ref p/\i = .int k/\H p = some (.lst xs)/\ixN xs.length k = some j/\Q (upd H p (.lst (xs.set j v)))
theorem set_list:PSet X rSetL:=by
 intro pins s σ H o i v ov iv u Q I ro ri rv h
 refine o4_5 h fun p xs k j zq197 zq198 hp hj q=>?_
 try clear h
 subst zq197
 subst zq198
 cases ro
 refine o1_1 ri fun t zq199=>?_
 try clear ri
 subst zq199
 refine o2_3 (I.lst hp) fun its n r ho hz=>?_
 refine o0_4 (ixN_seq hj) fun h1 h2 h3 h4=>?_
 have hl:=r.length
 have hn:=line63
 have I':Inv X pins σ (upd H p (.lst (xs.set j v))) { s with heap:=s.heap.update p (Obj.mapSeq (·.setIfInBounds j u)) } :=
  I.lstUpd hp ho (mapSeq_set its n j u) (r.set rv j) (by rw [List.length_set]; exact hz) s.toks
 by_cases h0:0<=k
 ·have hk:k.toNat = j:=by
   rw [seqIndex_of h0 h4] at h1
   exact Option.some.inj h1
  exact PySem.W.ki_setAt ho h0 (by lia) (by rw [List.size_toArray,<-hl]; exact h4) (by rw [hk]; exact ⟨_,I',q⟩)
 ·have hk:(k + (its.toArray.size:Int)).toNat = j:=by
   rw [seqIndex_neg (by lia) h3] at h1
   rw [List.size_toArray,<-hl]
   exact Option.some.inj h1
  exact PySem.W.ki_setBack ho (by lia) (by rw [List.size_toArray,<-hl]; exact h3) (by lia) (by rw [hk]; exact ⟨_,I',q⟩)
theorem slice_bounds (lo hi:Option Int) (n:Nat):(sliceBounds lo hi none n).1 = ((HT.sIx n 0 lo:Nat):Int)/\(sliceBounds lo hi none n).2.1 = ((HT.sIx n n hi:Nat):Int)/\(sliceBounds lo hi none n).2.2 = 1:=by
 refine ⟨?_,?_,rfl⟩
 ·cases lo with
  | none=>simp [sliceBounds,HT.sIx]
  | some i =>
   simp only [sliceBounds,HT.sIx,Option.getD_none,show (1:Int) > 0 by decide,if_true]
   by_cases h:i < 0
   ·simp only [h,if_true] <;> lia
   ·simp only [h,if_false] <;> lia
 ·cases hi with
  | none=>simp [sliceBounds,HT.sIx]
  | some i =>
   simp only [sliceBounds,HT.sIx,Option.getD_none,show (1:Int) > 0 by decide,if_true]
   by_cases h:i < 0
   ·simp only [h,if_true] <;> lia
   ·simp only [h,if_false] <;> lia
theorem slicePick_cut (its:List Value) (lo hi:Option Int):slicePick its.toArray lo hi none = ((its.drop (HT.sIx its.length 0 lo)).take (HT.sIx its.length its.length hi - HT.sIx its.length 0 lo)).toArray:=by
 refine o0_3 (slice_bounds lo hi its.toArray.size) fun h1 h2 h3=>?_
 unfold slicePick
 rw [h1,h2,h3]
 simp only [sliceRange_one,pick_run,List.size_toArray] <;> rfl
noncomputable def rSlL (K:PySem.W.Frag):V->Option Int->Option Int->Hp->VK->Prop:=fun x lo hi H Q=>∃ a xs,x = .ref a/\SqL K H a xs/\∀ p,H p = none->Q (.ref p) (upd H p (.lst (cutV xs lo hi)))
theorem sl_list:SlR X (rSlL X.K):=by
 intro pins s σ H x v vl vu lo hi sl Q I rx hs pl pu h
 refine o2_3 h fun a xs zq200 hx q=>?_
 try clear h
 subst zq200
 cases rx
 refine o1_3 (I.list hx) fun its r ht hz=>?_
 have hlen:=r.length
 refine ⟨"list",_,slot_list_getitem.lookup,ht.isList.typeIs,?_⟩
 refine wpAny_getItem_list_slice ht.isList hs pl pu .none (by simp) ?_ (by rw [List.size_toArray] <;> lia)
 rw [slicePick_cut,<-hlen]
 refine ⟨.ref s.heap.objs.size,_,I.laid (t':=s.toks) (o:=.lst (cutV xs lo hi)) (fun b ob q=>Heap.get?_push_of_some _ q) (Nat.le_refl _) ?_,rfl,q _ (I.hok.fresh (Nat.le_refl _))⟩
 exact ⟨Nat.le_trans (cutV_length xs lo hi) hz,_,0,(r.drop (HT.sIx xs.length 0 lo)).take (HT.sIx xs.length xs.length hi - HT.sIx xs.length 0 lo),Heap.get?_push_size _ rfl⟩
noncomputable def flatV:V->Bool
 | .non=>true
 | .bl _=>true
 | .int _=>true
 | .str _=>true
 | _=>false
noncomputable def eqV:V->V->Bool
 | .non,.non=>true
 | .bl a,.bl b=>a == b
 | .bl a,.int b=>(if a then 1 else 0) == b
 | .int a,.bl b=>a == (if b then 1 else 0)
 | .int a,.int b=>a == b
 | .str a,.str b=>a == b
 | _,_=>false
theorem eqAt_V {A:Around} {s:Shared} {y x:V} {u v:Value} (ry:RelV y u) (rx:RelV x v) (fy:flatV y = true) (fx:flatV x = true):SeqAt.EqAt A s u v (eqV y x):=by
 cases y with
 | non =>
  cases ry
  cases x with
  | non=>cases rx; exact SeqAt.EqAt.same _
  | bl b=>cases rx; exact SeqAt.EqAt.none_bool b
  | int b=>obtain ⟨t,rfl⟩:=rx; exact SeqAt.EqAt.none_int b t
  | str b=>obtain ⟨t,rfl⟩:=rx; exact SeqAt.EqAt.none_str b t
  | _=>exact absurd (show false = true from fx) Bool.false_ne_true
 | bl a =>
  cases ry
  cases x with
  | non=>cases rx; exact SeqAt.EqAt.bool_none a
  | bl b=>cases rx; exact SeqAt.EqAt.bool_bool a b
  | int b=>obtain ⟨t,rfl⟩:=rx; exact SeqAt.EqAt.bool_int a b t
  | str b=>obtain ⟨t,rfl⟩:=rx; exact SeqAt.EqAt.bool_str a b t
  | _=>exact absurd (show false = true from fx) Bool.false_ne_true
 | int a =>
  refine o1_1 ry fun t' zq201=>?_
  try clear ry
  subst zq201
  cases x with
  | non=>cases rx; exact SeqAt.EqAt.int_none a t'
  | bl b=>cases rx; exact SeqAt.EqAt.int_bool a t' b
  | int b=>obtain ⟨t,rfl⟩:=rx; exact SeqAt.EqAt.int_int a t' b t
  | str b=>obtain ⟨t,rfl⟩:=rx; exact SeqAt.EqAt.int_str a t' b t
  | _=>exact absurd (show false = true from fx) Bool.false_ne_true
 | str a =>
  refine o1_1 ry fun t' zq202=>?_
  try clear ry
  subst zq202
  cases x with
  | non=>cases rx; exact SeqAt.EqAt.str_none a t'
  | bl b=>cases rx; exact SeqAt.EqAt.str_bool a t' b
  | int b=>obtain ⟨t,rfl⟩:=rx; exact SeqAt.EqAt.str_int a t' b t
  | str b=>obtain ⟨t,rfl⟩:=rx; exact SeqAt.EqAt.str_str a t' b t
  | _=>exact absurd (show false = true from fx) Bool.false_ne_true
 | _=>exact absurd (show false = true from fy) Bool.false_ne_true
noncomputable def eqU (x:V) (u:Value):Bool:=match u with
 | .none=>eqV .non x
 | .bool b=>eqV (.bl b) x
 | .int i _=>eqV (.int i) x
 | .str z _=>eqV (.str z) x
 | _=>false
theorem eqU_of {x y:V} {u:Value} (r:RelV y u) (f:flatV y = true):eqU x u = eqV y x:=by
 cases y with
 | non=>cases r; rfl
 | bl b=>cases r; rfl
 | int i=>obtain ⟨t,rfl⟩:=r; rfl
 | str z=>obtain ⟨t,rfl⟩:=r; rfl
 | _=>exact absurd (show false = true from f) Bool.false_ne_true
theorem any_eqU {x:V}:∀ {xs:List V} {us:List Value},Vals xs us->xs.all flatV = true->us.any (eqU x) = xs.any fun y=>eqV y x
 | _,_,.nil,_=>rfl
 | y :: xs,u :: us,.cons r t,f=>by
  rw [List.all_cons,Bool.and_eq_true] at f
  rw [List.any_cons,List.any_cons,eqU_of r f.1,any_eqU t f.2]
theorem mem_eqAt {A:Around} {s:Shared} {x:V} {v:Value} (rx:RelV x v) (fx:flatV x = true):∀ {xs:List V} {us:List Value},Vals xs us->xs.all flatV = true->∀ u ∈ us,SeqAt.EqAt A s u v (eqU x u)
 | _,_,.nil,_=>fun u hu=>by cases hu
 | y :: xs,u :: us,.cons r t,f=>fun u' hu=>by
  rw [List.all_cons,Bool.and_eq_true] at f
  rcases List.mem_cons.mp hu with rfl | hu
  ·rw [eqU_of r f.1]; exact eqAt_V r rx f.1 fx
  ·exact mem_eqAt rx fx t f.2 u' hu
noncomputable def inV (x:V) (xs:List V):Bool:=xs.any fun y=>eqV y x
noncomputable def rIn (K:PySem.W.Frag) (neg:Bool):R2:=fun x y H Q=>∃ p xs,y = .ref p/\(SqL K H p xs\/SqT K H p xs)/\flatV x = true/\xs.all flatV = true/\Q (.bl (if neg then !inV x xs else inV x xs)) H
theorem op_in_seq:OpR X (compareOp .In) (rIn X.K false):=by
 intro pins s σ H x y v u Q I rx ry h
 refine o2_5 h fun p xs zq203 hq fx fs q=>?_
 try clear h
 subst zq203
 cases ry
 rcases hq with hq | hq
 ·refine o1_3 (I.list hq) fun its r pl hz=>?_
  refine SeqAt.in_listAt (eqU x) pl.isList (fun w hw=>mem_eqAt rx fx r fs w (by simpa using hw)) ⟨.bl _,H,I,rfl,?_⟩
  rw [show its.toArray.any (eqU x) = its.any (eqU x) by simp,any_eqU r fs]
  exact q
 ·refine o1_3 (I.tuple hq) fun its r pl hz=>?_
  refine SeqAt.in_tupleAt (eqU x) pl (fun w hw=>mem_eqAt rx fx r fs w (by simpa using hw)) ⟨.bl _,H,I,rfl,?_⟩
  rw [show its.toArray.any (eqU x) = its.any (eqU x) by simp,any_eqU r fs]
  exact q
theorem op_notIn_seq:OpR X (compareOp .NotIn) (rIn X.K true):=by
 intro pins s σ H x y v u Q I rx ry h
 refine o2_5 h fun p xs zq204 hq fx fs q=>?_
 try clear h
 subst zq204
 cases ry
 rcases hq with hq | hq
 ·refine o1_3 (I.list hq) fun its r pl hz=>?_
  refine SeqAt.notIn_listAt (eqU x) pl.isList (fun w hw=>mem_eqAt rx fx r fs w (by simpa using hw)) ⟨.bl _,H,I,rfl,?_⟩
  rw [show its.toArray.any (eqU x) = its.any (eqU x) by simp,any_eqU r fs]
  exact q
 ·refine o1_3 (I.tuple hq) fun its r pl hz=>?_
  refine SeqAt.notIn_tupleAt (eqU x) pl (fun w hw=>mem_eqAt rx fx r fs w (by simpa using hw)) ⟨.bl _,H,I,rfl,?_⟩
  rw [show its.toArray.any (eqU x) = its.any (eqU x) by simp,any_eqU r fs]
  exact q
theorem call_len_seq:CallR X (.builtin "len") (fun xs H Q=>∃ p ys,xs = [.ref p]/\(SqL X.K H p ys\/SqT X.K H p ys)/\Q (.int ys.length) H):=by
 intro pins s σ H xs us Q I r h
 refine o2_3 h fun p ys zq209 hq q=>?_
 try clear h
 subst zq209
 refine o1_2 (vals1 r) fun u zq210 rx=>?_
 subst zq210
 cases rx
 have hn:=line63
 rcases hq with hq | hq
 ·refine o1_3 (I.list hq) fun its r' pl hz=>?_
  have hlen:=r'.length
  exact Calls.call_len_list pl.isList (by simp only [List.size_toArray] <;> lia) ⟨.int ys.length,H,I.tok _,⟨s.toks + 1,by rw [List.size_toArray,hlen]⟩,q⟩
 ·refine o1_3 (I.tuple hq) fun its r' pl hz=>?_
  have hlen:=r'.length
  exact len_tuple pl (by simp only [List.size_toArray] <;> lia) ⟨.int ys.length,H,I.tok _,⟨s.toks + 1,by rw [List.size_toArray,hlen]⟩,q⟩
theorem call_len_str:CallR X (.builtin "len") (fun xs H Q=>∃ z,xs = [.str z]/\z.length<=sizeLine/\Q (.int z.length) H):=by
 intro pins s σ H xs us Q I r h
 refine o1_3 h fun z zq211 hz q=>?_
 try clear h
 subst zq211
 obtain ⟨u,zq212,t,zq213⟩:=(vals1 r)
 subst zq212
 subst zq213
 have hn:=line63
 exact len_str (by lia) ⟨.int z.length,H,I.tok _,⟨_,rfl⟩,q⟩
theorem call_list_of:CallR X (.type "list") (fun xs H Q=>∃ p ys,xs = [.ref p]/\(SqL X.K H p ys\/SqT X.K H p ys)/\∀ l,H l = none->Q (.ref l) (upd H l (.lst ys))):=by
 intro pins s σ H xs us Q I r h
 refine o2_3 h fun p ys zq214 hq q=>?_
 try clear h
 subst zq214
 refine o1_2 (vals1 r) fun u zq215 rx=>?_
 subst zq215
 cases rx
 have fin:∀ (its:List Value),Vals ys its->ys.length<=sizeLine->∀ (h':Heap) (c':Nat),(∀ b o',s.heap.get? b = some o'->h'.get? b = some o') ->
   h'.get? s.heap.objs.size = some { cls:=.type "list",dict:=none,data:=.seq its.toArray c',slots:=#[] }->EP X pins σ Q (.ref s.heap.objs.size) { s with heap:=h' }:=fun its r' hz h' c' kp e =>
  ⟨.ref s.heap.objs.size,_,I.laid (t':=s.toks) kp (Nat.le_refl _) (show ObjOk X.prog X.w _ h' _ (.lst ys) from ⟨hz,its,c',r',e⟩),rfl,q _ (I.hok.fresh (Nat.le_refl _))⟩
 rcases hq with hq | hq
 ·refine o1_3 (I.list hq) fun its r' pl hz=>?_
  have hlen:=r'.length
  obtain ⟨o,ho,hc,n,hd⟩:=pl.isList
  exact call_list_seq p (.inl rfl) ho hc hd (fun h' c' kp e=>fin its r' hz h' c' kp e) (by simp only [List.size_toArray] <;> lia)
 ·refine o1_3 (I.tuple hq) fun its r' pl hz=>?_
  have hlen:=r'.length
  obtain ⟨o,ho,hc,n,hd⟩:=pl
  exact call_list_seq p (.inr rfl) ho hc hd (fun h' c' kp e=>fin its r' hz h' c' kp e) (by simp only [List.size_toArray] <;> lia)
theorem call_tuple_of:CallR X (.type "tuple") (fun xs H Q=>∃ p ys,xs = [.ref p]/\((SqL X.K H p ys/\∀ l,H l = none->Q (.ref l) (upd H l (.tup ys)))\/(SqT X.K H p ys/\Q (.ref p) H))):=by
 intro pins s σ H xs us Q I r h
 obtain ⟨p,ys,zq216,h⟩:=h
 subst zq216
 refine o1_2 (vals1 r) fun u zq217 rx=>?_
 subst zq217
 cases rx
 rcases h with ⟨hq,q⟩ | ⟨hq,q⟩
 ·refine o1_3 (I.list hq) fun its r' pl hz=>?_
  have hlen:=r'.length
  refine call_tuple_list pl.isList (fun h' kp=>?_) (by simp only [List.size_toArray] <;> lia)
  have I1:Inv X pins σ H { s with heap:=h' }:=I.kept (t':=s.toks) kp
  have I2:Inv X pins σ (upd H h'.objs.size (.tup ys)) { s with heap:=h'.push { cls:=.type "tuple",data:=.seq its.toArray } } :=
   I1.laid (t':=s.toks) (fun b o e=>Heap.get?_push_of_some _ e) (Nat.le_refl _) (show ObjOk X.prog X.w _ _ _ (.tup ys) from ⟨hz,its,r',IsTup.new _ _⟩)
  exact ⟨.ref h'.objs.size,_,I2,rfl,q _ (I1.hok.fresh (Nat.le_refl _))⟩
 ·refine o1_3 (I.tuple hq) fun its r' pl hz=>?_
  exact call_tuple_same pl ⟨.ref p,H,I,rfl,q⟩
noncomputable def tyV (K:PySem.W.Frag) (T:String) (x:V) (H:Hp):Prop:=match x with
 | .str _=>T = "str"
 | .int _=>T = "int"
 | .ref p=>(T = "list"/\∃ xs,SqL K H p xs)\/(T = "tuple"/\∃ o,K.lookup p = some o/\o.cls = .type "tuple"/\o.dict = none) \/
   (T = "dict"/\((∃ kvs,H p = some (.dK kvs))\/∃ kvs,H p = some (.dT kvs)))\/(T = "set"/\∃ S n,H p = some (.set S n))
 | _=>False
theorem tyV_is {pins:List (Addr × Obj)} {σ:St} {H:Hp} {s:Shared} {T:String} {x:V} {v:Value} (I:Inv X pins σ H s) (r:RelV x v) (ty:tyV X.K T x H) :
  s.TypeIs v T/\∀ a,v = .ref a->∃ ob,s.heap.get? a = some ob/\ob.dict = none:=by
 cases x with
 | str z =>
  refine o1_1 r fun t zq218=>?_
  try clear r
  subst zq218
  cases (show T = "str" from ty)
  exact ⟨typeIs_str s z t,fun _ e=>nomatch e⟩
 | int i =>
  refine o1_1 r fun t zq219=>?_
  try clear r
  subst zq219
  cases (show T = "int" from ty)
  exact ⟨typeIs_int s i t,fun _ e=>nomatch e⟩
 | ref p =>
  cases r
  rcases ty with ⟨rfl,xs,hq⟩ | ⟨rfl,o,hk,hc,hd⟩ | ⟨rfl,hk⟩ | ⟨rfl,S,n,hk⟩
  ·refine o1_3 (I.list hq) fun its _ pl _=>?_
   refine ⟨pl.isList.typeIs,fun a e=>?_⟩
   cases e
   refine o2_4 pl fun o n e c hd _=>?_
   try clear pl
   exact ⟨o,e,hd⟩
  ·refine ⟨⟨o,I.kIn p o hk,hc⟩,fun a e=>?_⟩
   cases e
   exact ⟨o,I.kIn _ o hk,hd⟩
  ·have z:∃ o,s.heap.get? p = some o/\o.ExactDict:=by
    rcases hk with ⟨kvs,hk⟩ | ⟨kvs,hk⟩
    ·obtain ⟨_,_,_,_,o,_,_,e,ex,_⟩:=(I.hok p _ hk)
     exact ⟨o,e,ex⟩
    ·obtain ⟨_,_,_,_,o,_,_,e,ex,_⟩:=(I.hok p _ hk)
     exact ⟨o,e,ex⟩
   refine o1_2 z fun o e ex=>?_
   try clear z
   refine ⟨⟨o,e,ex.1⟩,fun a e2=>?_⟩
   cases e2
   exact ⟨o,e,ex.2.1⟩
  ·refine o4_3 (I.hok p _ hk) fun o _ _ _ e ex _=>?_
   refine ⟨⟨o,e,ex.1⟩,fun a e2=>?_⟩
   cases e2
   exact ⟨o,e,ex.2.1⟩
 | _=>exact False.elim ty
noncomputable def tBM0 (K:PySem.W.Frag) (T:String) (r:V->List V->Hp->VK->Prop) (to:TE):TE:=fun σ H Q=>to σ H fun x H1=>tyV K T x H1/\r x [] H1 Q
noncomputable def tBM (K:PySem.W.Frag) (T:String) (r:V->List V->Hp->VK->Prop) (to:TE) (t:TA):TE:=fun σ H Q=>to σ H fun x H1=>tyV K T x H1/\t σ H1 fun xs H2=>r x xs H2 Q
variable {o e:Expr} {es:List Expr} {to:TE} {t:TA} {name:Str} {apos cpos:Pos} {T id:String} {r:V->List V->Hp->VK->Prop}
theorem pe_bm0 (pa:PlainAttrs T) (slot:Slot T name id) (hty:typeOf (.builtin id) = pure (.type "method_descriptor")) (hm:MtR X id r) (ho:PE X o to)
  (hbase:attributeBase o name X.env (eval o X.env) = eval o X.env:=by rfl) (hline:(apos.endLine == cpos.line) = true:=by rfl):PE X (.Call (.Attribute o name apos) [] [] cpos) (tBM0 X.K T r to):=by
 intro pins s σ H Q I h
 refine wpAny_Call_method0_late hbase hline (thn (ho pins s σ H _ I h) fun v s1 zz=>?_)
 refine o2_4 zz fun x H1 I1 r1 ty q1=>?_
 try clear zz
 refine o0_2 (tyV_is I1 r1 ty) fun h1 h2=>?_
 exact ⟨T,id,pa,slot,hty,h1,h2,Calls.callWith_builtin rfl (PySem.evalArgs_none (hm pins s1 σ H1 x [] v [] Q I1 r1 .nil q1))⟩
theorem pe_bm (pa:PlainAttrs T) (slot:Slot T name id) (hty:typeOf (.builtin id) = pure (.type "method_descriptor")) (hm:MtR X id r) (ho:PE X o to) (ha:PA X (e :: es) t)
  (hbase:attributeBase o name X.env (eval o X.env) = eval o X.env:=by rfl)
  (hfew:((backTo cpos (starEach (e :: es) X.env)).all (fun x=>!x.1) && (backToKw cpos (keywordEach [] X.env)).all (fun x=>x.1.isSome)
   && decide ((e :: es).length + ([]:List Keyword).length + (if ([]:List Keyword).isEmpty then 0 else 1) < 30)) = true:=by rfl)
  (hline:(apos.endLine == cpos.line) = true:=by rfl) (hs:starEach (e :: es) X.env = (false,eval e X.env) :: starEach es X.env:=by rfl) (hplain:(backTo cpos (starEach es X.env)).any (·.1) = false:=by rfl) :
  PE X (.Call (.Attribute o name apos) (e :: es) [] cpos) (tBM X.K T r to t):=by
 intro pins s σ H Q I h
 refine wpAny_Call_method_late hbase hfew hline rfl (thn (ho pins s σ H _ I h) fun v s1 zz=>?_)
 refine o2_4 zz fun x H1 I1 r1 ty q1=>?_
 try clear zz
 refine o0_2 (tyV_is I1 r1 ty) fun h1 h2=>?_
 refine ⟨T,id,pa,slot,hty,h1,h2,?_⟩
 have hA:=ha cpos pins s1 σ H1 _ I1 q1
 rw [hs] at hA ⊢
 refine Calls.callWith_builtin (by show (false || (backTo cpos (starEach es X.env)).any (·.1)) = false; rw [hplain] <;> rfl) (Calls.evalArgs_plain ?_)
 exact thn hA fun us s2 ⟨vs,H2,I2,r2,q2⟩=>hm pins s2 σ H2 x vs v us Q I2 r1 r2 q2
end
end L2
namespace L2
open PySem PySem.Spec PyProof.Rows
noncomputable def MtM (X:Cx) (id:String) (r:V->List V->Hp->VK->Prop):Prop :=
 ∀ (pins:List (Addr × Obj)) (s:Shared) (σ:St) (H:Hp) (x:V) (xs:List V) (v:Value) (us:List Value) (Q:VK),Inv X pins σ H s->RelV x v->Vals xs us->r x xs H Q ->
  wpAny (model X.prog X.w) X.A (call (.builtin id) (v :: us)) (EP X pins σ Q) X.xe s
theorem Vals.one:∀ {x:V} {us:List Value},Vals [x] us->∃ u,us = [u]/\RelV x u
 | _,_,.cons r .nil=>⟨_,rfl,r⟩
theorem Vals.two {x y:V} {us:List Value} (h:Vals [x,y] us):∃ u v,us = [u,v]/\RelV x u/\RelV y v:=by
 cases h with
 | cons r h=>cases h with
  | cons q h=>cases h; exact ⟨_,_,rfl,r,q⟩
theorem Vals.zero:∀ {us:List Value},Vals [] us->us = []
 | _,.nil=>rfl
theorem Vals.eraseIdx:∀ {xs:List V} {us:List Value} (i:Nat),Vals xs us->Vals (xs.eraseIdx i) (us.eraseIdx i)
 | _,_,_,.nil=>.nil
 | _,_,0,.cons _ t=>t
 | _,_,i + 1,.cons r t=>.cons r (Vals.eraseIdx i t)
theorem Vals.reverse {xs:List V} {us:List Value} (h:Vals xs us):Vals xs.reverse us.reverse:=by
 induction h with
 | nil=>exact .nil
 | cons r t ih=>rw [List.reverse_cons,List.reverse_cons]; exact Vals.append ih (.cons r .nil)
theorem Vals.rep {xs:List V} {us:List Value} (h:Vals xs us):∀ k:Nat,Vals (List.replicate k xs).flatten (List.replicate k us).flatten
 | 0=>.nil
 | k + 1=>by
  rw [List.replicate_succ,List.replicate_succ,List.flatten_cons,List.flatten_cons]
  exact Vals.append h (Vals.rep h k)
theorem len_erase {α:Type}:∀ (l:List α) (i:Nat),(l.eraseIdx i).length<=l.length
 | [],_=>Nat.le_refl _
 | _ :: _,0=>Nat.le_succ _
 | _ :: r,i + 1=>Nat.succ_le_succ (len_erase r i)
theorem foldl_rep (its:List Value):∀ (k:Nat) (acc:List Value),
  List.foldl (fun x1 x2=>x1 ++ x2) acc.toArray (List.replicate k its.toArray) = (acc ++ (List.replicate k its).flatten).toArray
 | 0,acc=>by simp
 | k + 1,acc=>by
  have e:acc.toArray ++ its.toArray = (acc ++ its).toArray:=by simp
  have e2:(acc ++ its) ++ (List.replicate k its).flatten = acc ++ (List.replicate (k + 1) its).flatten:=by
   rw [List.replicate_succ,List.flatten_cons,List.append_assoc]
  rw [<-e2,<-foldl_rep its k (acc ++ its),<-e,List.replicate_succ,List.foldl_cons]
section
variable {X:Cx} {pins:List (Addr × Obj)} {σ:St} {H:Hp} {s:Shared} {l b:Addr} {xs ys zs:List V}
theorem Inv.lset {its its':List Value} {n:Nat} {f:Array Value->Array Value} {t':Nat} (I:Inv X pins σ H s) (hH:H l = some (.lst xs))
  (e:s.heap.get? l = some { cls:=.type "list",data:=.seq its.toArray n }) (hf:f its.toArray = its'.toArray) (hv:Vals ys its') (hz:ys.length<=sizeLine) :
  Inv X pins σ (upd H l (.lst ys)) { s with heap:=s.heap.update l (Obj.mapSeq f),toks:=t' }:=by
 have q:=PySem.IsL.update e f
 rw [hf] at q
 refine I.write (x:=l) (e:=l) (by rw [hH]; exact trivial) (.inl rfl) (fun b' u hb hu=>(Heap.get?_update_other s.heap (Obj.mapSeq f) (Ne.symm hb)).trans hu) ⟨_,q⟩ ?_
 exact ⟨hz,its',_,hv,q⟩
theorem Inv.lnew {its:List Value} {t':Nat} (I:Inv X pins σ H s) (hv:Vals ys its) (hz:ys.length<=sizeLine) :
  Inv X pins σ (upd H s.heap.objs.size (.lst ys)) { s with heap:=s.heap.push { cls:=.type "list",data:=.seq its.toArray },toks:=t' } :=
 I.laid (fun _ _ q=>Heap.get?_push_of_some _ q) (Nat.le_refl _) ⟨hz,its,0,hv,Heap.get?_push_size _ rfl⟩
theorem Inv.fresh (I:Inv X pins σ H s):H s.heap.objs.size = none:=I.hok.fresh (Nat.le_refl _)
theorem Inv.lstM (I:Inv X pins σ H s) (hH:H l = some (.lst xs)):xs.length<=sizeLine/\∃ (its:List Value) (n:Nat),Vals xs its/\xs.length = its.length/\s.heap.get? l = some { cls:=.type "list",data:=.seq its.toArray n }:=by
 obtain ⟨z,its,n,r,e⟩:=(I.hok l _ hH)
 exact ⟨z,its,n,r,r.length,e⟩
theorem notLongL {n:Nat} (h:n<=sizeLine):Builtin.List.listTooLong n = false:=by
 unfold Builtin.List.listTooLong
 exact decide_eq_false (by lia)
end
section
variable {X:Cx}
noncomputable def rAppend:V->List V->Hp->VK->Prop:=fun x vs H Q=>∃ l xs y,x = .ref l/\vs = [y]/\H l = some (.lst xs)/\xs.length < sizeLine/\Q .non (upd H l (.lst (xs ++ [y])))
theorem mt_append:MtM X "list.append" rAppend:=by
 intro pins s σ H x vs v us Q I rx rv h
 refine o3_5 h fun l xs y zq220 zq221 hH hz q=>?_
 try clear h
 subst zq220
 subst zq221
 cases rx
 refine o1_2 rv.one fun u zq222 ru=>?_
 subst zq222
 obtain ⟨z,its,n,r,hl,e⟩:=(I.lstM hH)
 refine call_meets F.slot_list_append ⟨_,e,rfl⟩ F.entry_list_append (F.args_list_append_2 _ _) (PySem.list_append l its.toArray n u (by rw [List.size_toArray]; lia)) ⟨e,?_⟩
 refine ⟨.non,_,I.lset (its':=its ++ [u]) hH e (by simp) (r.append (.cons ru .nil)) ?_,rfl,q⟩
 rw [List.length_append,List.length_singleton]
 lia
noncomputable def rPopAt:V->List V->Hp->VK->Prop:=fun x vs H Q=>∃ l xs i k y,x = .ref l/\vs = [.int i]/\H l = some (.lst xs)/\-(2 ^ 63)<=i/\i < 2 ^ 63/\seqIndex? i xs.length = some k/\xs[k]? = some y/\Q y (upd H l (.lst (xs.eraseIdx k)))
theorem mt_popAt:MtM X "list.pop" rPopAt:=by
 intro pins s σ H x vs v us Q I rx rv h
 refine o5_8 h fun l xs i k y zq228 zq229 hH h1 h2 hk hy q=>?_
 try clear h
 subst zq228
 subst zq229
 cases rx
 refine o1_2 rv.one fun u zq230 ru=>?_
 subst zq230
 refine o1_1 ru fun t zq231=>?_
 try clear ru
 subst zq231
 obtain ⟨z,its,n,r,hl,e⟩:=(I.lstM hH)
 refine o1_2 (r.get hy) fun w hw rw'=>?_
 refine call_meets F.slot_list_pop ⟨_,e,rfl⟩ F.entry_list_pop (F.args_list_pop_2 _ _)
  (MeetsSeq.list_pop_at l its.toArray n i t k w (fitsIndex_both h1 h2) (by rw [List.size_toArray,<-hl]; exact hk) (by rw [<-Array.getElem?_toList]; exact hw) (by rw [List.size_toArray]; lia)) ⟨e,?_⟩
 refine ⟨y,_,I.lset (its':=its.eraseIdx k) hH e ?_ (r.eraseIdx k) ?_,rw',q⟩
 ·show its.toArray.eraseIdxIfInBounds k = (its.eraseIdx k).toArray
  rw [List.eraseIdxIfInBounds_toArray]
 ·have:=len_erase xs k
  lia
noncomputable def rReverse:V->List V->Hp->VK->Prop:=fun x vs H Q=>∃ l xs,x = .ref l/\vs = []/\H l = some (.lst xs)/\Q .non (upd H l (.lst xs.reverse))
theorem mt_reverse:MtM X "list.reverse" rReverse:=by
 intro pins s σ H x vs v us Q I rx rv h
 refine o2_4 h fun l xs zq232 zq233 hH q=>?_
 try clear h
 subst zq232
 subst zq233
 cases rx
 have hus:=rv.zero
 subst hus
 obtain ⟨z,its,n,r,hl,e⟩:=(I.lstM hH)
 refine call_meets F.slot_list_reverse ⟨_,e,rfl⟩ F.entry_list_reverse (F.args_list_reverse_1 _) (AutoSeq1.list_reverse_list_0 l its.toArray n (by rw [List.size_toArray]; lia)) ⟨e,?_⟩
 refine ⟨.non,_,I.lset (its':=its.reverse) hH e (by simp) r.reverse ?_,rfl,q⟩
 rw [List.length_reverse]
 lia
noncomputable def rCat:R2:=fun x y H Q=>∃ l b xs zs,x = .ref l/\y = .ref b/\H l = some (.lst xs)/\H b = some (.lst zs)/\xs.length + zs.length<=sizeLine/\∀ p,H p = none->Q (.ref p) (upd H p (.lst (xs ++ zs)))
theorem op_cat:OpR X (binaryOp .Add) rCat:=by
 intro pins s σ H x y v u Q I rx ry h
 refine o4_6 h fun l b xs zs zq236 zq237 hH hB hz q=>?_
 try clear h
 subst zq236
 subst zq237
 cases rx
 cases ry
 obtain ⟨z,its,n,r,hl,e⟩:=(I.lstM hH)
 obtain ⟨z2,its2,n2,r2,hl2,e2⟩:=(I.lstM hB)
 refine PySem.P.add_list e e2 ?_ (by rw [List.size_toArray,List.size_toArray]; lia)
 have ea:its.toArray ++ its2.toArray = (its ++ its2).toArray:=by simp
 rw [ea]
 exact ⟨.ref _,_,I.lnew (t':=s.toks) (r.append r2) (by rw [List.length_append]; lia),rfl,q _ I.fresh⟩
noncomputable def rRep:R2:=fun x y H Q=>∃ l k xs,x = .ref l/\y = .int k/\H l = some (.lst xs)/\-(2 ^ 63)<=k/\k < 2 ^ 63/\xs.length * k.toNat<=sizeLine /\
 ∀ p,H p = none->Q (.ref p) (upd H p (.lst (List.replicate k.toNat xs).flatten))
theorem len_rep {α:Type} (xs:List α) (k:Nat):(List.replicate k xs).flatten.length = k * xs.length:=by
 induction k with
 | zero=>simp
 | succ k ih=>rw [List.replicate_succ,List.flatten_cons,List.length_append,ih,Nat.succ_mul,Nat.add_comm]
theorem op_rep:OpR X (binaryOp .Mult) rRep:=by
 intro pins s σ H x y v u Q I rx ry h
 refine o3_7 h fun l k xs zq238 zq239 hH h1 h2 hz q=>?_
 try clear h
 subst zq238
 subst zq239
 cases rx
 refine o1_1 ry fun t zq240=>?_
 try clear ry
 subst zq240
 obtain ⟨z,its,n,r,hl,e⟩:=(I.lstM hH)
 have hlen:its.toArray.size * k.toNat<=sizeLine:=by rw [List.size_toArray,<-hl]; exact hz
 have hcap:¬ its.toArray.size * k.toNat > (2 ^ 63 - 1) / 8:=by
  have:(sizeLine:Nat)<=(2 ^ 63 - 1) / 8:=by decide
  lia
 have hfit:¬ (!Builtin.List.listFitsIndex k) = true:=by
  rw [fitsIndex_both h1 h2]
  exact Bool.false_ne_true
 have hlong:¬ Builtin.List.listTooLong (its.toArray.size * k.toNat) = true:=by
  rw [notLongL hlen]
  exact Bool.false_ne_true
 have hnew:List.foldl (fun x1 x2=>x1 ++ x2) #[] (List.replicate (if its.toArray.isEmpty = true then 0 else k.toNat) its.toArray) = (List.replicate k.toNat its).flatten.toArray:=by
  have f0:∀ m:Nat,List.foldl (fun x1 x2=>x1 ++ x2) #[] (List.replicate m its.toArray) = (List.replicate m its).flatten.toArray:=fun m=>by
   have:=foldl_rep its m []
   rw [List.nil_append] at this
   exact this
  rw [f0]
  cases its with
  | nil=>simp
  | cons a r'=>rw [if_neg (by simp)]
 refine wpAny_binaryOp_repeat_ref (T := "list") (U := "int") (by decide) ⟨_,e,rfl⟩ (fun s'=>typeIs_int s' k t) noFill_list_mul F.fills_int_mul F.slot_int_rmul repeat_list F.slot_int_index.lookup
  (call_meets F.slot_int_rmul (typeIs_int s k t) F.entry_int_rmul (F.args_int_rmul_2 _ _) (int___rmul___int_list k t l its.toArray n)
   ⟨e,rfl,⟨_,e,rfl⟩,call_meets F.slot_list_mul ⟨_,e,rfl⟩ F.entry_list_mul (F.args_list_mul_2 _ _) (AutoListH.list___mul___list_int_3 l its.toArray n k t hfit hcap hlong) ⟨e,?_⟩⟩)
 rw [hnew]
 exact ⟨.ref _,_,I.lnew (t':=s.toks) (r.rep k.toNat) (by rw [len_rep,Nat.mul_comm]; exact hz),rfl,q _ I.fresh⟩
end
end L2
namespace L2
open PySem PySem.Spec PyProof.Rows
section
variable {κ:Type} [DecidableEq κ]
noncomputable def valV (kvs:List (κ × V)) (k:κ):Option V:=(kvs.find? fun kv=>decide (kv.1 = k)).map (·.2)
noncomputable def putK (kvs:List (κ × V)) (k:κ) (v:V):List (κ × V) :=
 if (kvs.any fun kv=>decide (kv.1 = k)) = true then kvs.map (fun kv=>if kv.1 = k then (kv.1,v) else kv) else kvs ++ [(k,v)]
theorem valV_pos {p:κ × V} {r:List (κ × V)} {k:κ} (e:p.1 = k):valV (p :: r) k = some p.2:=by simp [valV,List.find?_cons,e]
theorem valV_neg {p:κ × V} {r:List (κ × V)} {k:κ} (e:¬ p.1 = k):valV (p :: r) k = valV r k:=by simp [valV,List.find?_cons,e]
theorem valV_any (k:κ):∀ kvs:List (κ × V),(kvs.any fun kv=>decide (kv.1 = k)) = (valV kvs k).isSome
 | []=>rfl
 | p :: r=>by
  rw [List.any_cons]
  by_cases e:p.1 = k
  ·simp only [valV_pos e,decide_eq_true e,Bool.true_or,Option.isSome_some]
  ·rw [valV_neg e,decide_eq_false e,Bool.false_or]; exact valV_any k r
theorem valV_map (k j:κ) (y:V):∀ kvs:List (κ × V),valV (kvs.map fun kv=>if kv.1 = k then (kv.1,y) else kv) j = (valV kvs j).map fun x=>if j = k then y else x
 | []=>rfl
 | p :: r=>by
  have ih:=valV_map k j y r
  rw [List.map_cons]
  by_cases h:p.1 = k
  ·rw [if_pos h]
   by_cases e:p.1 = j
   ·rw [valV_pos (p:=(p.1,y)) e,valV_pos e,Option.map_some,if_pos (e.symm.trans h)]
   ·rw [valV_neg (p:=(p.1,y)) e,valV_neg e,ih]
  ·rw [if_neg h]
   by_cases e:p.1 = j
   ·rw [valV_pos (p:=p) e,valV_pos e,Option.map_some,if_neg (fun z=>h (e.trans z))]
   ·rw [valV_neg (p:=p) e,valV_neg e,ih]
theorem valV_snoc (k j:κ) (y:V):∀ kvs:List (κ × V),valV kvs k = none->valV (kvs ++ [(k,y)]) j = if j = k then some y else valV kvs j
 | [],_=>by
  by_cases e:k = j
  ·rw [if_pos e.symm]; exact valV_pos (p:=(k,y)) e
  ·rw [if_neg (fun z=>e z.symm)]; exact valV_neg (p:=(k,y)) e
 | p :: r,hn=>by
  rw [List.cons_append]
  have hk:¬ p.1 = k:=fun z=>by rw [valV_pos z] at hn; cases hn
  rw [valV_neg hk] at hn
  have ih:=valV_snoc k j y r hn
  by_cases e:p.1 = j
  ·rw [valV_pos e,valV_pos e,if_neg (fun z=>hk (e.trans z))]
  ·rw [valV_neg e,valV_neg e,ih]
theorem valV_put (kvs:List (κ × V)) (k j:κ) (y:V):valV (putK kvs k y) j = if j = k then some y else valV kvs j:=by
 unfold putK
 by_cases a:(kvs.any fun kv=>decide (kv.1 = k)) = true
 ·rw [if_pos a,valV_map]
  rw [valV_any] at a
  by_cases e:j = k
  ·refine o1_1 (Option.isSome_iff_exists.mp a) fun x hx=>?_
   rw [if_pos e,e,hx,Option.map_some,if_pos rfl]
  ·rw [if_neg e]
   cases valV kvs j with
   | none=>rfl
   | some x=>rw [Option.map_some,if_neg e]
 ·rw [if_neg a]
  refine valV_snoc k j y kvs ?_
  rw [valV_any] at a
  cases q:valV kvs k with
  | none=>rfl
  | some x=>rw [q] at a; exact (a rfl).elim
theorem length_putK (kvs:List (κ × V)) (k:κ) (v:V):(putK kvs k v).length<=kvs.length + 1:=by
 unfold putK
 split
 ·rw [List.length_map]; lia
 ·rw [List.length_append,List.length_cons,List.length_nil]; lia
theorem KV.val {kvs:List (κ × V)} {vs:List (κ × Value)} (r:KV kvs vs) (k:κ):RelO (valV kvs k) (valueAt vs k):=by
 unfold KV at r
 induction r with
 | nil=>exact True.intro
 | @cons p q ps qs h t ih =>
  refine o0_2 h fun h1 h2=>?_
  try clear h
  by_cases e:p.1 = k
  ·have e':q.1 = k:=h1.symm.trans e
   have b:valueAt (q :: qs) k = some q.2:=by simp [valueAt,List.find?_cons,e']
   rw [valV_pos e,b]; exact h2
  ·have e':¬ q.1 = k:=fun z=>e (h1.trans z)
   have b:valueAt (q :: qs) k = valueAt qs k:=by simp [valueAt,List.find?_cons,e']
   rw [valV_neg e,b]; exact ih
theorem KV.any {kvs:List (κ × V)} {vs:List (κ × Value)} (r:KV kvs vs) (k:κ):(kvs.any fun kv=>decide (kv.1 = k)) = vs.any fun kv=>decide (kv.1 = k):=by
 unfold KV at r
 induction r with
 | nil=>rfl
 | cons h t ih=>rw [List.any_cons,List.any_cons,ih,h.1]
theorem KV.repl {kvs:List (κ × V)} {vs:List (κ × Value)} (r:KV kvs vs) (k:κ) {y:V} {u:Value} (ry:RelV y u) :
  KV (kvs.map fun kv=>if kv.1 = k then (kv.1,y) else kv) (vs.map fun kv=>if kv.1 = k then (kv.1,u) else kv):=by
 unfold KV at r ⊢
 induction r with
 | nil=>exact .nil
 | @cons p q ps qs h t ih =>
  rw [List.map_cons,List.map_cons]
  refine .cons ?_ ih
  refine o0_2 h fun h1 h2=>?_
  try clear h
  by_cases e:p.1 = k
  ·rw [if_pos e,if_pos (h1.symm.trans e)]; exact ⟨h1,ry⟩
  ·rw [if_neg e,if_neg (fun z=>e (h1.trans z))]; exact ⟨h1,h2⟩
theorem KV.put {kvs:List (κ × V)} {vs:List (κ × Value)} (r:KV kvs vs) (k:κ) {y:V} {u:Value} (ry:RelV y u):KV (putK kvs k y) (stored vs k u):=by
 unfold putK stored
 rw [r.any k]
 by_cases e:(vs.any fun kv=>decide (kv.1 = k)) = true
 ·rw [if_pos e,if_pos e]; exact r.repl k ry
 ·rw [if_neg e,if_neg e]; exact Paired.snoc r ⟨rfl,ry⟩
theorem KV.length {kvs:List (κ × V)} {vs:List (κ × Value)} (r:KV kvs vs):kvs.length = vs.length:=Paired.length r
end
theorem kV_is {P:Program} {w:World} {k:Key} {u:Value} (r:RelV (kV k) u):(mixKind P w).is k u = true:=by
 cases k with
 | inl i=>obtain ⟨t,e⟩:=(show ∃ t,u = Value.int i t from r); subst e; exact mixKind_int P w i t
 | inr x=>obtain ⟨t,e⟩:=(show ∃ t,u = Value.str x t from r); subst e; exact mixKind_str P w x t
theorem items_are {P:Program} {w:World}:∀ {ks:List Key} {us:List Value},Vals (ks.map kV) us->ItemsAre (mixKind P w) ks us
 | [],_,r=>by rw [List.map_nil] at r; cases r; exact .nil
 | k :: ks,_,r=>by
  rw [List.map_cons] at r
  cases r with
  | cons h t=>exact .cons (kV_is h) (items_are t)
noncomputable abbrev KT (H:Hp):List (List Key × V)->List (List Key × Addr × Value)->Prop:=Paired fun p q=>p.1 = q.1/\H q.2.1 = some (.tup (p.1.map kV))/\RelV p.2 q.2.2
theorem KT.val {H:Hp} {kvs:List (List Key × V)} {xs:List (List Key × Addr × Value)} (r:KT H kvs xs) (k:List Key):RelO (valV kvs k) ((atKey xs k).map (·.2)):=by
 induction r with
 | nil=>exact True.intro
 | @cons p q ps qs h t ih =>
  refine o0_3 h fun h1 _ h2=>?_
  try clear h
  by_cases e:p.1 = k
  ·have e':q.1 = k:=h1.symm.trans e
   have b:atKey (q :: qs) k = some q.2:=by simp [atKey,List.find?_cons,e']
   rw [valV_pos e,b]; exact h2
  ·have e':¬ q.1 = k:=fun z=>e (h1.trans z)
   have b:atKey (q :: qs) k = atKey qs k:=by simp [atKey,List.find?_cons,e']
   rw [valV_neg e,b]; exact ih
section
variable {P:Program} {w:World} {H:Hp} {h:Heap} {a:Addr}
theorem rd_of {u:HO} (ok:HOk P w H h) (e:Rd H a u):ObjOk P w H h a u:=e.ok ok
theorem dk_rd {kvs:List (Key × V)} (ok:HOk P w H h) (e:Rd H a (.dK kvs)):kvs.length<=sizeLine/\(a == sysModules) = false/\∃ vs,KV kvs vs/\h.DictOf (mixKind P w) a vs :=
 show ObjOk P w H h a (.dK kvs) from rd_of ok e
theorem dk_of {kvs:List (Key × V)} (ok:HOk P w H h) (e:H a = some (.dK kvs)):kvs.length<=sizeLine/\(a == sysModules) = false/\∃ vs,KV kvs vs/\h.DictOf (mixKind P w) a vs:=dk_rd ok (.inl e)
theorem key_of {ks:List Key} (ok:HOk P w H h) (e:H a = some (.tup (ks.map kV))):(tupleKind (mixKind P w)).is h ks a:=by
 obtain ⟨_,its,r,o,h1,h2,n,h3⟩:=((show ObjOk P w H h a (.tup (ks.map kV)) from ok a _ e))
 exact ⟨o,its.toArray,n,h1,h2,h3,by simpa using items_are r⟩
theorem dt_rd {kvs:List (List Key × V)} (ok:HOk P w H h) (e:Rd H a (.dT kvs)):kvs.length<=sizeLine/\(a == sysModules) = false /\
  ∃ xs,KT H kvs xs/\h.DictOfH (tupleKind (mixKind P w)) a xs:=by
 obtain ⟨z,y,xs,r,o,es,ep,h1,h2,h3,h4,h5⟩:=((show ObjOk P w H h a (.dT kvs) from rd_of ok e))
 refine ⟨z,y,xs,r,o,es,ep,h1,h2,h3,h4,fun x hx=>?_,h5⟩
 have all:∀ {l:List (List Key × V)} {m:List (List Key × Addr × Value)},KT H l m->∀ x ∈ m,(tupleKind (mixKind P w)).is h x.1 x.2.1:=by
  intro l m q
  induction q with
  | nil=>intro x hx; exact nomatch hx
  | @cons p q ps qs hq t ih =>
   intro x hx
   rcases List.mem_cons.mp hx with e | hx
   ·subst e
    exact key_of ok (by rw [<-hq.1]; exact hq.2.1)
   ·exact ih x hx
 exact all r x hx
end
noncomputable def DGet (H:Hp) (a:Addr) (y:V) (r:Option V):Prop :=
 (∃ kvs k,Rd H a (.dK kvs)/\y = kV k/\r = valV kvs k)\/∃ kvs k b,Rd H a (.dT kvs)/\y = .ref b/\H b = some (.tup (k.map kV))/\r = valV kvs k
theorem DGet.k {H:Hp} {a:Addr} {kvs:List (Key × V)} {k:Key} (e:H a = some (.dK kvs)):DGet H a (kV k) (valV kvs k):=.inl ⟨kvs,k,.inl e,rfl,rfl⟩
section
variable {X:Cx} {pins:List (Addr × Obj)} {σ:St} {H:Hp} {s:Shared} {a:Addr} {y v:V} {u r:Value} {o:Option V} {A:Around} {E:Value->Shared->Prop}
theorem Inv.big (I:Inv X pins σ H s):sysModules < s.heap.objs.size:=by
 have h:mainGlobals < s.heap.objs.size:=(I.mod.glob.keeps I.bk).lt
 exact Nat.lt_trans (by decide) h
theorem d_getItem {Q:Value->Shared->Prop} (hu:A.units + 1 < cLine) (I:Inv X pins σ H s) (g:DGet H a y (some v)) (ry:RelV y u) (h:∀ w' s',Inv X pins σ H s'->RelV v w'->Q w' s') :
  wpAny (model X.prog X.w) A (getItem (.ref a) u) Q E s:=by
 rcases g with ⟨kvs,k,e,ey,l⟩ | ⟨kvs,k,b,e,ey,eb,l⟩
 ·subst ey
  obtain ⟨z,hd,vs,rel,dd⟩:=(dk_rd I.hok e)
  obtain ⟨w',hw,rw'⟩:=RelO.some_of (v:=v) (o:=valueAt vs k) (by rw [l]; exact rel.val k)
  exact wpAny_getItem_of (kV_is ry) dd.mapOf hw (h w' _ (I.tok _) rw')
 ·subst ey
  cases (show u = Value.ref b from ry)
  obtain ⟨z,hd,xs,rel,dd⟩:=(dt_rd I.hok e)
  obtain ⟨w',hw,rw'⟩:=RelO.some_of (v:=v) (o:=(atKey xs k).map (·.2)) (by rw [l]; exact rel.val k)
  refine o1_2 (Option.map_eq_some_iff.mp hw) fun p hp hp2=>?_
  refine wpAny_getItem_heap (tupleKind_room_in1 hu) (key_of I.hok eb) dd hp ?_
  rw [hp2]
  exact h w' _ (I.tok _) rw'
theorem d_write {h':Heap} {t':Nat} {ob:HO} (I:Inv X pins σ H s) (mu:Mut (H a)) (hs:Heap.SameBut a s.heap h') (he:∃ q,h'.get? a = some q) (new:ObjOk X.prog X.w (upd H a ob) h' a ob) :
  Inv X pins σ (upd H a ob) { s with heap:=h',toks:=t' } :=
 I.write (x:=a) (e:=a) mu (.inl rfl) (fun b q hb z=>(hs.2 b hb).trans z) he new
theorem dk_new {P:Program} {w:World} {H':Hp} {h':Heap} {kvs:List (Key × V)} {vs:List (Key × Value)} (z:kvs.length<=sizeLine) (hd:(a == sysModules) = false) (rel:KV kvs vs) (dd:h'.DictOf (mixKind P w) a vs) :
  ObjOk P w H' h' a (.dK kvs):=⟨z,hd,vs,rel,dd⟩
end
noncomputable def NoSl (i:Expr):Prop:=∀ ov iv,subscripted i false ov iv = operate [ov,iv] (getItem ov iv)
theorem subD_of {prog:Program} {w:World} {A:Around} {E:Value->Shared->Prop} {s:Shared} {env:Env} {value slice:Expr} {pos:Pos} {T id:String} {Q:Value->Shared->Prop}
  (hl:typeLookup (.type T) "__getitem__" = pure (some (.builtin id))) (hs:NoSl slice)
  (h:wpAny (model prog w) A (eval value env) (fun o s₁=>wpAny (model prog w) A (eval slice env) (fun i s₂=>s₂.TypeIs o T/\wpAny (model prog w) A (getItem o i) Q E s₂) E s₁) E s) :
  wpAny (model prog w) A (eval (.Subscript value slice pos) env) Q E s:=by
 refine Subscript_ (wpAny_mono h (fun o s₁ h₁=>wpAny_mono h₁ (fun i s₂ h₂=>?_) fun _ _ x=>x) fun _ _ x=>x)
 obtain ⟨hT,h₂⟩:=h₂
 unfold subscriptTail
 refine wpAny_bind ?_
 rw [getitemInPython_of_ne hT.not_modules]
 refine wpAny_bind (wpAny_specialOf hT hl ?_)
 have fin:wpAny (model prog w) A (subscripted slice false o i) (fun r s₃=>wpAny (model prog w) A (letTemporaryGo value o r >>= fun _=>pure r) Q E s₃) E s₂:=by
  rw [hs o i]
  exact wpAny_operating (wpAny_mono h₂ (fun r s₃ h₃=>wpAny_bind (wpAny_letTemporaryGo (wpAny_pure h₃))) fun _ _ x=>x)
 first
  | exact wpAny_pure (wpAny_bind fin)
  | exact wpAny_bind (wpAny_pure (wpAny_bind fin))
  | exact wpAny_bind fin
theorem dict_typeIs {X:Cx} {pins:List (Addr × Obj)} {σ:St} {H:Hp} {s:Shared} {a:Addr} {y:V} {o:Option V} (I:Inv X pins σ H s) (g:DGet H a y o):s.TypeIs (.ref a) "dict":=by
 rcases g with ⟨kvs,k,e,_,_⟩ | ⟨kvs,k,b,e,_,_,_⟩
 ·obtain ⟨_,_,vs,_,dd⟩:=(dk_rd I.hok e)
  exact dd.typeIs
 ·obtain ⟨_,_,xs,_,dd⟩:=(dt_rd I.hok e)
  exact dd.typeIs
noncomputable def tDGet (td ty:TE):TE:=fun σ H Q=>td σ H fun x H1=>ty σ H1 fun y H2=>∃ a v,x = .ref a/\DGet H2 a y (some v)/\Q v H2
section
variable {X:Cx} {o i e value:Expr} {pos pos' tpos:Pos} {td ty tv:TE}
theorem pe_dget (hu:X.A.units + 1 < cLine) (ho:PE X o td) (hi:PE X i ty) (hs:NoSl i):PE X (.Subscript o i pos) (tDGet td ty):=by
 intro pins s σ H Q I h
 refine subD_of PySem.F.slot_dict_getitem.lookup hs (thn (ho pins s σ H _ I h) fun u s1 ⟨x,H1,I1,rx,q1⟩=>thn (hi pins s1 σ H1 _ I1 q1) fun iv s2 zz=>?_)
 obtain ⟨y,H2,I2,ry,a,v,ex,g,q2⟩:=zz
 subst ex
 obtain rfl:u = Value.ref a:=rx
 exact ⟨dict_typeIs I2 g,d_getItem hu I2 g ry fun w' s3 I3 rw'=>⟨v,H2,I3,rw',q2⟩⟩
end
theorem dk_empty {P:Program} {w:World} {H:Hp} (h:Heap) (hb:sysModules < h.objs.size):ObjOk P w H (h.push { cls:=.type "dict",data:=.dict #[] }) h.objs.size (.dK []) :=
 ⟨Nat.zero_le _,beq_eq_false_iff_ne.mpr (Ne.symm (Nat.ne_of_lt hb)),[],.nil,Heap.DictOf.new h⟩
end L2
namespace Att
open PySem PySem.W PySem.Calls PyProof.Rows
theorem ints_of_wellAll {P:Params} {h:Heap}:∀ (ns:List Int) (vs:List Value),WellAll P h vs (ns.map WData.int)->IntsAre vs ns:=by
 intro ns
 induction ns with
 | nil =>
  intro vs w
  rw [List.map_nil] at w
  cases w
  exact .nil
 | cons n ns ih =>
  intro vs w
  rw [List.map_cons] at w
  cases w with
  | cons a b =>
   cases a
   exact .cons _ _ (ih _ b)
theorem script_of {l:OpenLaw} {n:Nat} (hn:l.most = some n) {P:Params} {h:Heap} {args:List WData} {vals:List Value}
  (hpre:l.row.toRowW.claim.pre args = true) (hwl:WellAll P h vals args) :
  ∃ a vs ns,vals = [Value.ref a]/\args = [WData.list (ns.map WData.int)]/\h.get? a = some { cls:=.type "list",data:=.seq vs.toArray }/\IntsAre vs ns/\ns.length<=n:=by
 have hsh:WShape.hasAll [] args [.list .int] = true:=(pre_splitW hpre).1
 have hc:l.pre.holds [] { args:=args } = true:=(pre_splitW hpre).2
 refine o2_3 (hasAllW_cons hsh) fun d r zq245 h1 h2=>?_
 subst zq245
 obtain rfl:=hasAllW_nil h2
 refine o1_2 (hasW_list h1) fun xs zq246 h3=>?_
 subst zq246
 refine o1_1 (items_int h3) fun ns zq247=>?_
 subst zq247
 have hlen:ns.length<=n:=by
  unfold OpenLaw.pre at hc
  have h4:(WTm.not (.lt (.lit (.int (n:Int))) (.len (.arg 0)))).holds [] { args:=[.list (ns.map .int)] } = true:=by
   have h4:=(holds_andW hc).1
   rw [hn] at h4
   exact h4
  have h5:=condW_of h4 (w_not (w_lt w_lit (w_len_list (w_arg rfl))))
  rw [List.length_map] at h5
  refine Nat.le_of_not_lt fun q=>?_
  have q':(n:Int) < ((ns.length:Nat):Int):=by lia
  first
   | (rw [decide_eq_true q'] at h5; exact absurd h5 (by decide))
   | (simp at h5; lia)
 cases hwl with
 | cons w1 w2 =>
  cases w2
  cases w1 with
  | list ho hall=>exact ⟨_,_,ns,rfl,rfl,ho,ints_of_wellAll ns _ hall,hlen⟩
theorem post_true (l:OpenLaw) (args:List WData):l.row.toRowW.claim.post args (.bool true) args = true :=
 postW_of (r:=l.row.toRowW) (X:=(true == true))
  (show WShape.has [] (.bool true) .bool = true by first | rfl | decide | simp [WShape.has,WShape.arms,WShape.armsAll])
  (show (WTm.eq .res (.lit (.bool true))).value [] { args:=args,res:=some (.bool true),after:=args } = some (.bool (true == true)) from w_eq_bool (w_res rfl) w_lit) rfl
theorem attach_call {l:OpenLaw} {n:Nat} {q:Program} {loose:List Str} {XP:(Str->Option Value)->Heap->Prop} {YP:World->Heap->Prop} {d:DefRec}
  (hn:l.most = some n) (hdf:d.params.defaults = [])
  (call:∀ (w:World) (s₀ s₁:Shared) (mg mb:Str->Option Value) (fa:Addr) (o:Obj) (pm cd doc:Value) (a:Addr) (vs:List Value) (ns:List Int),
   Ground q loose [] XP w s₀ mg mb s₁.heap->YP w s₁.heap ->
   s₁.heap.get? fa = some o->o.data = .func (docDef d.name d.params d.body d.scope pm cd doc)->s₁.heap.CodeRec cd d.name->mg d.name = some (.ref fa) ->
   s₁.heap.get? a = some { cls:=.type "list",data:=.seq vs.toArray }->IntsAre vs ns->ns.length<=n->s₁.gens = #[] ->
   codeAny (model l.prog w) callerA (.call (.ref fa) ⟨[.ref a],[]⟩) (fun r s'=>r = .ok (.ret (.bool true))/\OldK s₁.heap s'.heap/\s'.os = s₁.os/\AllBare s'.gens) s₁) :
  WalkO q loose XP YP l.row.toRowW d [] (fun f vs=>PySem.call f vs):=by
 intro w s₀ s₁ mg mb G Y fa o pm cd doc dV kV ho hd hcd hD hmg hg args vals as hpre hlay hrd hwl hlo
 obtain rfl:dV = .none:=Dflts.none hD hdf
 obtain rfl:kV = .none:=Dflts.noKw hD
 refine o3_5 (script_of hn hpre hwl) fun a vs ns zq251 zq252 hobj hints hlen=>?_
 subst zq251
 subst zq252
 refine enter_call (codeAny_mono (call w s₀ s₁ mg mb fa o pm cd doc a vs ns G Y ho (fd_plain hd) hcd hmg hobj hints hlen hg) fun r s' hq=>?_)
 refine o0_4 hq fun zq253 h2 h3 h4=>?_
 try clear hq
 subst zq253
 exact ⟨.inl ⟨.bool true,.bool true,[],rfl,fun _=>rfl,.bool true,post_true l _,fun _=>⟨List.Pairwise.nil,fun _ hm=>(nomatch hm)⟩⟩,h2,h3,h4⟩
end Att
namespace L2
open PySem PySem.Spec PyProof.Rows
theorem vals_ints:∀ {vs:List Value} {ns:List Int},IntsAre vs ns->Vals (ns.map V.int) vs
 | _,_,.nil=>.nil
 | _,_,.cons n t h=>.cons ⟨t,rfl⟩ (vals_ints h)
noncomputable def Only (H:Hp):Prop:=∀ b,H b = none\/∃ o xs,H b = some (.frz o (.lst xs))
theorem law_call {P:Program} {w:World} {K:PySem.W.Frag} {mg mb:Str->Option Value} {CX:CXT} {k:Nat} {fa a:Addr} {fd:FuncData} {x:Str} {sp:Sp} {s₁:Shared} {vs:List Value} {ns:List Int}
  (KX:K.In s₁.heap) (hns:s₁.heap.Ns mainGlobals mg) (hb:s₁.heap.Ns builtinsNs mb) (hbb:∀ x:Str,x ≠ "__name__"->mb x = bootBuiltins x) (hlim:s₁.heap.NoLimit) (hg:s₁.gens = #[])
  (ha:s₁.heap.get? a = some { cls:=.type "list",data:=.seq vs.toArray }) (hi:IntsAre vs ns) (hl:ns.length<=sizeLine) (hr:Room k callerA)
  (F:∀ base:Heap,K.In base->base.Ns mainGlobals mg->FnOk P w K mg base CX k fa fd [x] sp) (hbind:∀ (s:Shared) (u:Value),BindsTo s fd ⟨[u],[]⟩ [(x,u)])
  (hsp:∀ H:Hp,Only H->SqL K H a (ns.map V.int)->sp [.ref a] H (fun v _=>v = .bl true) fun _ _ _=>False)
  (hCX:∀ H e s',CX [] H s₁ (fun _ _ _=>False) e s'->False) :
  codeAny (model P w) callerA (.call (.ref fa) ⟨[.ref a],[]⟩) (fun r s'=>r = .ok (.ret (.bool true))/\OldK s₁.heap s'.heap/\s'.os = s₁.os/\AllBare s'.gens) s₁:=by
 have rv:=vals_ints hi
 have lenV:=hi.length
 have core:∀ H:Hp,Only H->SqL K H a (ns.map V.int)->HOk P w H s₁.heap->(∀ b,H b ≠ none->b = a)->(H a ≠ none->K.lookup a = none) ->
   codeAny (model P w) callerA (.call (.ref fa) ⟨[.ref a],[]⟩) (fun r s'=>r = .ok (.ret (.bool true))/\OldK s₁.heap s'.heap/\s'.os = s₁.os/\AllBare s'.gens) s₁:=by
  intro H hO hS hok hA hK
  have base_of:∀ {b:Addr} {o:Obj},s₁.heap.get? b = some o->H b = none->(hidT s₁.heap H).get? b = some o:=fun e n=>hidT_get e n
  have noA:∀ {b:Addr} {o:Obj} {es:Array DictEntry} {ep:Nat},s₁.heap.get? b = some o->o.data = .dict es ep->H b = none:=fun {b o es ep} e d=>by
   cases q:H b with
   | none=>rfl
   | some u =>
    have e':b = a:=hA b (by rw [q]; simp)
    subst e'
    rw [ha] at e; cases e
    have d':Data.seq vs.toArray _ = Data.dict es ep:=d
    cases d'
  have nsK:∀ {b:Addr} {m:Str->Option Value},s₁.heap.Ns b m->(hidT s₁.heap H).Ns b m:=fun {b m} ⟨o,es,ep,e,d,r⟩=>⟨o,es,ep,base_of e (noA e d),d,r⟩
  have hKb:K.In (hidT s₁.heap H):=fun b o e=>base_of (KX b o e) (by
   cases q:H b with
   | none=>rfl
   | some u =>
    have e':b = a:=hA b (by rw [q]; simp)
    subst e'
    rw [hK (by rw [q]; simp)] at e; cases e)
  have hM:Mod K mg (hidT s₁.heap H):=⟨hKb,nsK hns,⟨mb,nsK hb,hbb⟩,let ⟨mc,h1,h2⟩:=hlim; ⟨mc,nsK h1,h2⟩⟩
  have e0:Env0 P w K mg (hidT s₁.heap H) callerA [] s₁ H:=⟨rfl,hM,fun b o e=>of_hidT e,Nat.le_of_eq (hidT_size _ _),trivial,fun b hb=>absurd (show b ∈ ([]:List Addr) from hb) (by simp),hok,.of_eq hg⟩
  refine codeAny_mono ((F _ hKb (nsK hns)).run callerA [] s₁ H ⟨[.ref a],[]⟩ [.ref a] [.ref a] _ _ hr e0 (hbind s₁ (.ref a)) (.cons rfl .nil) (hsp H hO hS)) fun r s' h=>?_
  cases r with
  | error e=>exact (hCX H e s' h).elim
  | ok fl =>
   cases fl with
   | next=>exact False.elim h
   | brk=>exact False.elim h
   | cont=>exact False.elim h
   | ret u =>
    refine o2_6 h fun v H' os bare un hok' r' q=>?_
    try clear h
    have q':v = .bl true:=q
    subst q'
    obtain rfl:u = Value.bool true:=r'
    refine ⟨rfl,OldK.of_keep fun b o e=>?_,os,bare⟩
    cases q:H b with
    | none=>exact un.keep b o e q (by intro z; exact absurd (show b ∈ ([]:List Addr) from z) (by simp)) (by simp)
    | some u =>
     rcases hO b with z | ⟨ob,xs,z⟩
     ·rw [q] at z; cases z
     ·have z2:=un.frzs b ob _ z
      refine o0_2 (hok b _ z) fun e1 _=>?_
      refine o0_2 (hok' b _ z2) fun e2 _=>?_
      rw [e] at e1; cases e1
      exact e2
 cases hk:K.lookup a with
 | some o =>
  have e:=KX a o hk
  rw [ha] at e
  cases e
  refine core (fun _=>none) (fun _=>.inl rfl) (.inr ⟨_,vs.toArray,_,hk,rfl,rfl,rfl,by rw [List.size_toArray,lenV]; exact hl,by simpa using rv⟩) (fun b u z=>by have z':(none:Option HO) = some u:=z; cases z') (fun b z=>absurd rfl z) fun z=>absurd rfl z
 | none =>
  refine core (fun b=>if b = a then some (.frz { cls:=.type "list",data:=.seq vs.toArray } (.lst (ns.map V.int))) else none) (fun b=>?_) (.inl (.inr ⟨{ cls:=.type "list",data:=.seq vs.toArray },if_pos rfl⟩)) (fun b u z=>?_) (fun b z=>?_) fun _=>hk
  ·by_cases hb:b = a
   ·exact .inr ⟨_,_,if_pos hb⟩
   ·exact .inl (if_neg hb)
  ·by_cases hb:b = a
   ·have z':=(if_pos hb).symm.trans z
    cases z'
    subst hb
    exact ⟨ha,by rw [List.length_map]; exact hl,vs,_,rv,ha⟩
   ·have z':=(if_neg hb).symm.trans z
    cases z'
  ·by_cases hb:b = a
   ·exact hb
   ·exact absurd (if_neg hb) z
end L2
namespace L2
open PySem PySem.Spec PyProof.Rows
theorem walk_of {l:PySem.W.OpenLaw} {n k:Nat} {q:Program} {loose:List Str} {XP:(Str->Option Value)->Heap->Prop} {YP:World->Heap->Prop} {d:DefRec} {K:Params->PySem.W.Frag} {CX:World->CXT} {sp:World->Sp} {x:Str}
  (hn:l.most = some n) (hn2:n<=sizeLine) (hdf:d.params.defaults = []) (hr:Room k callerA)
  (hY:∀ (w:World) (h:Heap),YP w h->(K w.params).In h)
  (F:∀ (w:World) (mg:Str->Option Value) (fa:Addr) (h:Heap),(K w.params).In h->h.Ns mainGlobals mg->mg d.name = some (.ref fa) ->
   ∃ fd:FuncData,(∀ (s:Shared) (u:Value),BindsTo s fd ⟨[u],[]⟩ [(x,u)]) /\
    ∀ base:Heap,(K w.params).In base->base.Ns mainGlobals mg->FnOk l.prog w (K w.params) mg base (CX w) k fa fd [x] (sp w))
  (hsp:∀ (w:World) (H:Hp) (a:Addr) (ns:List Int),ns.length<=n->Only H->SqL (K w.params) H a (ns.map V.int)->sp w [.ref a] H (fun v _=>v = .bl true) fun _ _ _=>False)
  (hCX:∀ (w:World) (H:Hp) (s:Shared) (e:Value) (s':Shared),CX w [] H s (fun _ _ _=>False) e s'->False) :
  PySem.W.WalkO q loose XP YP l.row.toRowW d [] (fun f vs=>PySem.call f vs):=by
 refine Att.attach_call hn hdf fun w s₀ s₁ mg mb fa o pm cd doc a vs ns G Y ho hd hcd hmg hobj hints hlen hg=>?_
 have KX:=hY w _ Y
 refine o1_2 (F w mg fa _ KX G.T.g hmg) fun fd hb hF=>?_
 exact law_call KX G.T.g G.T.b G.T.builtins G.T.nolimit hg hobj hints (Nat.le_trans hlen hn2) hr hF hb (fun H hO hS=>hsp w H a ns hlen hO hS) fun H e s'=>hCX w H s₁ e s'
end L2
namespace L2
open PySem PySem.Spec PyProof.Rows
noncomputable def inClass (s:Stmt) (j:Nat):Stmt:=match s with
 | .ClassDef _ _ _ body _ _ _ _ _ _ _=>body.getD j (.Pass ⟨0,0,0,0⟩)
 | _=>.Pass ⟨0,0,0,0⟩
noncomputable def defArgs (s:Stmt):Arguments:=match s with
 | .FunctionDef _ a _ _ _ _ _ _ _ _=>a
 | _=>{ posonlyargs:=[],args:=[],vararg:=none,kwonlyargs:=[],kw_defaults:=[],kwarg:=none,defaults:=[] }
noncomputable def defBody (s:Stmt):List Stmt:=match s with
 | .FunctionDef _ _ b _ _ _ _ _ _ _=>b
 | _=>[]
noncomputable def defScope (s:Stmt):Scope:=match s with
 | .FunctionDef _ _ _ _ _ _ sc _ _ _=>sc
 | _=>{ kind:=.function,names:=[],isGenerator:=false,isCoroutine:=false }
noncomputable abbrev CX0:CXT:=fun _ _ _ _ _ _=>False
noncomputable abbrev E0:XK:=fun _ _ _=>False
theorem pass0 {X:Cx}:Passes CX0 X E0:=fun _ _ _ _ _ _ _ h=>h.elim
structure Fun (K:PySem.W.Frag) (x qual:Str) (st:Stmt) (f:Addr) (fd:FuncData):Prop where
 ex:∃ (oc:Value) (od:Option Addr) (kV doc pm:Value) (an:Option Addr) (cdv ct:Value) (osl:Array (Option Value)),
  fd = PySem.W.fnOf x qual (defArgs st) (defBody st) (defScope st) .none kV doc pm an cdv ct/\K.lookup f = some ⟨oc,od,.func fd,osl⟩/\PySem.W.codeIn K cdv qual = true
 kp:PySem.W.keepIn K (.ref f) = true
section
variable {P:Program} {w:World} {K:PySem.W.Frag} {mg:Str->Option Value} {base:Heap}
theorem Fun.ok {x qual:Str} {st:Stmt} {f:Addr} {fd:FuncData} {N ps:List Str} {k:Nat} {sp:Sp} (F:Fun K x qual st f fd) (S:FnScope N ps (defScope st)) (len:∀ vs H Q E,sp vs H Q E->vs.length = ps.length)
  (hbody:∀ (cdv:Value) (A:Around) (outer:List Env) (s:Shared) (H:Hp) (vs:List V) (Q:VK) (E:XK),Room k (A.deeper (envOfC qual (defScope st) s.heap.objs.size f cdv))->sp vs H Q E ->
   ∃ t,PSs (cxOf CX0 P w K mg base N qual (defScope st) f cdv A outer s H E).nox (defBody st) t/\t { nx:=fun _ H'=>Q .non H',rt:=Q } (start N vs) H):FnOk P w K mg base CX0 (k + 1) f fd ps sp:=by
 refine o9_3 F.ex fun oc od kV doc pm an cdv ct osl zq260 lk hcd=>?_
 subst zq260
 refine fn_of lk hcd S len fun A outer s H vs Q E hr hsp=>?_
 refine o1_2 (hbody cdv A outer s H vs Q E hr hsp) fun t h q=>?_
 exact ⟨t,h.nox,q⟩
theorem Fun.binds {x qual:Str} {st:Stmt} {f:Addr} {fd:FuncData} {ps:List Str} (F:Fun K x qual st f fd)
  (h:∀ (kV doc pm:Value) (an:Option Addr) (cdv ct:Value) (us:List Value),us.length = ps.length->bindArgs (PySem.W.fnOf x qual (defArgs st) (defBody st) (defScope st) .none kV doc pm an cdv ct) ⟨us,[]⟩ = pure (ps.zip us)):Binds K fd ps []:=by
 refine o9_3 F.ex fun oc od kV doc pm an cdv ct osl zq261 lk hcd=>?_
 subst zq261
 exact .all (h kV doc pm an cdv ct)
theorem fun_mk {x qual:Str} {st:Stmt} {f:Addr} {oc:Value} {od an:Option Addr} {osl:Array (Option Value)} {kV doc pm cdv ct:Value} (l:K.lookup f = some ⟨oc,od,.func (PySem.W.fnOf x qual (defArgs st) (defBody st) (defScope st) .none kV doc pm an cdv ct),osl⟩)
  (c:PySem.W.codeIn K cdv qual = true) (k:PySem.W.keepIn K (.ref f) = true):Fun K x qual st f (PySem.W.fnOf x qual (defArgs st) (defBody st) (defScope st) .none kV doc pm an cdv ct):=⟨⟨oc,od,kV,doc,pm,an,cdv,ct,osl,rfl,l,c⟩,k⟩
end
theorem hu_of {A:Around} {k:Nat} (hr:Room k A):A.units + 1 < cLine:=Nat.lt_of_le_of_lt (Nat.add_le_add_left (by decide:1<=64) _) hr.units
section
variable {X:Cx}
theorem pv (i:Nat) {x:Str} {pos:Pos} (hN:X.N[i]? = some x:=by rfl) (hv:Vis X.env.scope x:=by first | exact Or.inl rfl | exact Or.inr (Or.inl rfl) | exact Or.inr (Or.inr rfl)) (hd:(x == ("__debug__":Str)) = false:=by decide)
  (hcd:(x == ("__classdict__":Str)) = false:=by decide):PE X (.Name x pos) (tVar i):=pe_var hN hv hd hcd
end
theorem iteF {A B:Prop} (h:B):if false = true then A else B:=by
 rw [if_neg Bool.false_ne_true]
 exact h
theorem iteT {A B:Prop} (h:A):if true = true then A else B:=by
 rw [if_pos rfl]
 exact h
theorem ite2 {c A B:Prop} [Decidable c] (h1:c->A) (h2:¬ c->B):if c then A else B:=by
 by_cases h:c
 ·rw [if_pos h]
  exact h1 h
 ·rw [if_neg h]
  exact h2 h
noncomputable def Same (H H':Hp):Prop:=∀ b o,H b = some o->H' b = some o
theorem Same.refl (H:Hp):Same H H:=fun _ _ h=>h
theorem Same.trans {H H1 H2:Hp} (a:Same H H1) (b:Same H1 H2):Same H H2:=fun c o h=>b c o (a c o h)
theorem Same.free {H H':Hp} (e:Same H H') {l:Addr} (h:H' l = Option.none):H l = Option.none:=by
 cases q:H l with
 | none=>rfl
 | some o =>
  rw [e l o q] at h
  cases h
end L2
namespace L2
open PySem PySem.Spec PyProof.Rows
section
variable {κ:Type} [DecidableEq κ]
theorem nd_snoc:∀ {l:List κ} {k:κ},l.Nodup->¬ k ∈ l->(l ++ [k]).Nodup
 | [],k,_,_=>by simp
 | a :: r,k,h,hk=>by
  refine o0_2 (List.nodup_cons.mp h) fun h1 h2=>?_
  show (a :: (r ++ [k])).Nodup
  refine List.nodup_cons.mpr ⟨fun m=>?_,nd_snoc h2 fun m=>hk (List.mem_cons.mpr (Or.inr m))⟩
  rcases List.mem_append.mp m with q | q
  ·exact h1 q
  ·exact hk (List.mem_cons.mpr (Or.inl (List.mem_singleton.mp q).symm))
end
end L2
namespace L2
open PySem PySem.Spec PyProof.Rows
noncomputable def cxC (X:Cx) (scope:Scope) (cl:List (Str × Addr)) (N':List Str) (pins:List (Addr × Obj)) (ex:List Addr) (s3:Shared) (H3:Hp):Cx where
 prog:=X.prog
 w:=X.w
 K:=X.K
 mg:=X.mg
 base:=X.base
 A:=X.A
 N:=N'
 s₀:=s3
 H₀:=H3
 env:=compEnvC scope cl s3.heap.objs.size X.env
 outer:=X.stack
 stack:=X.stack
 ex:=ex
 fn:=fun _=>false
 calm:=X.calm
 pn:=X.pn ++ pins
 xe:=fun _ _=>False
noncomputable def Caps (X:Cx) (scope:Scope) (cl:List (Str × Addr)):List Str->List (Option Nat)->Prop
 | [],[]=>True
 | _ :: N,none :: c=>Caps X scope cl N c
 | x :: N,some j :: c=>(X.N[j]? = some x/\X.env.scope.names.lookup x = some .cell/\(relabel scope X.env).names.lookup x = some .cell/\cl.lookup x = X.env.cells.lookup x)/\Caps X scope cl N c
 | _,_=>False
noncomputable def ClIn (X:Cx):List (Str × Addr)->Prop
 | []=>True
 | p :: r=>X.env.cells.lookup p.1 = some p.2/\ClIn X r
structure CScope (X:Cx) (scope:Scope) (cl:List (Str × Addr)) (N':List Str) (cap:List (Option Nat)):Prop where
 kind:scope.kind = .function
 nocell:∀ y ∈ scope.names,y.2 ≠ .cell
 loc:∀ y ∈ scope.names,y.2 = .local->scope.names.lookup y.1 = some .local
 clos:closureFor scope X.env = pure cl
 cin:ClIn X cl
 has:((relabel scope X.env).names.all fun y=>!(y.2 == .cell || y.2 == .free) || (cl.lookup y.1).isSome) = true
 caps:Caps X scope cl N' cap
noncomputable def capS (cap:List (Option Nat)) (σ:St):St:=cap.map fun o=>o.bind fun j=>(σ[j]?).join
theorem ClIn.get {X:Cx}:∀ {cl:List (Str × Addr)} {x:Str} {c:Addr},ClIn X cl->cl.lookup x = some c->X.env.cells.lookup x = some c
 | [],_,_,_,h=>by simp at h
 | (y,d) :: r,x,c,⟨h1,h2⟩,h=>by
  rw [List.lookup_cons] at h
  cases e:x == y with
  | true =>
   rw [e] at h
   cases h
   rw [beq_iff_eq.mp e]
   exact h1
  | false =>
   rw [e] at h
   exact ClIn.get h2 h
theorem Caps.len {X:Cx} {scope:Scope} {cl:List (Str × Addr)}:∀ {N:List Str} {cap:List (Option Nat)},Caps X scope cl N cap->cap.length = N.length
 | [],[],_=>rfl
 | _ :: N,none :: c,h=>by rw [List.length_cons,List.length_cons,Caps.len (N:=N) (cap:=c) h]
 | _ :: N,some j :: c,h=>by rw [List.length_cons,List.length_cons,Caps.len h.2]
 | [],_ :: _,h=>h.elim
 | _ :: _,[],h=>h.elim
theorem Caps.get {X:Cx} {scope:Scope} {cl:List (Str × Addr)} {j:Nat} {x:Str}:∀ {N:List Str} {cap:List (Option Nat)} {i:Nat},Caps X scope cl N cap->N[i]? = some x->cap[i]? = some (some j) ->
  X.N[j]? = some x/\X.env.scope.names.lookup x = some .cell/\(relabel scope X.env).names.lookup x = some .cell/\cl.lookup x = X.env.cells.lookup x
 | [],_,_,_,h,_=>by simp at h
 | _ :: _,[],_,_,_,h=>by simp at h
 | y :: N,none :: c,0,_,_,h=>by simp at h
 | y :: N,none :: c,i + 1,h,h1,h2=>Caps.get (N:=N) (cap:=c) (i:=i) h (by simpa using h1) (by simpa using h2)
 | y :: N,some k :: c,0,h,h1,h2=>by
  simp at h1 h2
  subst h1; subst h2
  exact h.1
 | y :: N,some k :: c,i + 1,h,h1,h2=>Caps.get (N:=N) (cap:=c) (i:=i) h.2 (by simpa using h1) (by simpa using h2)
section
variable {X:Cx} {scope:Scope} {cl:List (Str × Addr)} {N':List Str} {cap:List (Option Nat)} {pins:List (Addr × Obj)} {σ:St} {H3:Hp} {s3:Shared} {ex:List Addr}
theorem lookup_all {p:NameKind->Bool}:∀ {names:List (Str × NameKind)} {q:Str->NameKind->Bool} {x:Str} {k:NameKind},(names.all fun y=>q y.1 y.2) = true->names.lookup x = some k->q x k = true
 | [],_,_,_,_,h=>by simp at h
 | (y,d) :: r,q,x,k,ha,h=>by
  rw [List.all_cons,Bool.and_eq_true] at ha
  rw [List.lookup_cons] at h
  cases e:x == y with
  | true =>
   rw [e] at h
   cases h
   rw [beq_iff_eq.mp e]
   exact ha.1
  | false =>
   rw [e] at h
   exact lookup_all (p:=p) (names:=r) (q:=q) ha.2 h
theorem Inv.block (I:Inv X pins σ H3 s3) (S:CScope X scope cl N' cap) (hc:X.calm = true) (hex:∀ b ∈ ex,FpOk X pins H3 b/\∃ o,s3.heap.get? b = some o) {h1:Heap} {tk:Nat}
  (hns:h1.Ns s3.heap.objs.size (fun _=>none)) (hk:∀ b o,s3.heap.get? b = some o->h1.get? b = some o) :
  Inv (cxC X scope cl N' pins ex s3 H3) [] (capS cap σ) H3 { s3 with heap:=h1,toks:=tk }:=by
 have lt3:∀ b o,s3.heap.get? b = some o->b ≠ s3.heap.objs.size:=fun b o e=>Nat.ne_of_lt (Heap.lt_size e)
 have hcell:∀ x c,cl.lookup x = some c->∃ v,s3.heap.IsCell c v:=fun x c e=>I.cell x c (S.cin.get e)
 have hfree:H3 s3.heap.objs.size = none:=I.hok.fresh (Nat.le_refl _)
 refine ⟨⟨I.ok.mod,?_,I.ok.glob,I.ok.blt,Nat.le_refl _,fun x y c e1 e2=>I.ok.inj x y c (S.cin.get e1) (S.cin.get e2),fun x hx=>?_,fun x c h _=>absurd h Bool.false_ne_true,I.ok.hd,I.ok.frames,.inl rfl,fun b hb=>?_,I.bs,Nat.le_trans I.ok.bsz I.sz,fun b o e hb=>?_,fun b hb=>?_,I.stack,I.stkFree⟩,
  rfl,I.bare,Un.kept hk,⟨_,hns,fun i x v e1 e2 e3=>?_⟩,fun x c e=>?_,hfree,fun x c e=>I.freeC x c (S.cin.get e),fun p hp=>?_,I.hok.kept hk,?_⟩
 ·exact S.kind
 ·have q:∀ k,(relabel scope X.env).names.lookup x = some k->(!(k == .cell || k == .free) || (cl.lookup x).isSome) = true:=fun k e=>lookup_all (p:=fun _=>true) (q:=fun a k=>!(k == .cell || k == .free) || (cl.lookup a).isSome) S.has e
  have hx':(relabel scope X.env).names.lookup x = some .cell\/(relabel scope X.env).names.lookup x = some .free:=hx
  have:(cl.lookup x).isSome = true:=by
   rcases hx' with e | e
   ·exact q _ e
   ·exact q _ e
  exact Option.isSome_iff_exists.mp this
 ·obtain ⟨zq1,o,e⟩:=(hex b hb)
  refine o0_6 zq1 fun _ _ _ _ f4 _=>?_
  exact ⟨lt3 b o e,fun x c ec=>f4 x c (S.cin.get ec)⟩
 ·refine o0_2 (hex b hb) fun zq2 _=>?_
  refine o0_5 zq2 fun f0 f1 f2 f3 _=>?_
  rcases f3 with f3 | f3
  ·exact I.ok.noex b o e f3
  ·have:=(I.ok.bs b o e).1
   exact absurd (Nat.lt_of_lt_of_le (Heap.lt_size this) f3) (Nat.lt_irrefl _)
 ·intro hf
  refine o0_2 (hex b hb) fun zq3 _=>?_
  refine o0_4 zq3 fun _ f1 f2 _=>?_
  rcases List.mem_cons.mp (I.stkSub b hf) with z | z
  ·exact f1 z
  ·exact f2 z
 ·unfold capS at e2
  rw [List.getElem?_map] at e2
  cases ec:cap[i]? with
  | none=>rw [ec] at e2; cases e2
  | some o =>
   rw [ec] at e2
   cases o with
   | none=>cases e2
   | some j =>
    have e2':(σ[j]?).join = some v:=Option.some.inj e2
    refine o0_4 (S.caps.get e1 ec) fun c1 c2 c3 c4=>?_
    have ej:σ[j]? = some (some v):=by
     cases ej:σ[j]? with
     | none=>rw [ej] at e2'; cases e2'
     | some z=>rw [ej] at e2'; cases z with
      | none=>cases e2'
      | some z=>cases e2'; rfl
    refine o1_2 I.loc fun m hn hl=>?_
    refine o1_2 (hl j x v c1 ej (.inr (.inl c2))) fun u r l=>?_
    refine ⟨u,r,?_⟩
    rcases l with ⟨k,_⟩ | ⟨_,c,hc',hcell'⟩
    ·have:X.env.scope.names.lookup x = some .local:=k
     rw [c2] at this; cases this
    ·exact .inr ⟨.inl c3,c,c4.trans hc',let ⟨o,ho,hd⟩:=hcell'; ⟨o,hk _ _ ho,hd⟩⟩
 ·refine o2_2 (hcell x c e) fun v o ho hd=>?_
  exact ⟨v,o,hk _ _ ho,hd⟩
 ·have hp':p ∈ X.pn ++ pins:=by simpa [cxC] using hp
  refine o0_5 (I.pin p hp') fun e n ne nf d=>?_
  refine ⟨hk _ _ e,n,lt3 _ _ e,fun hf=>?_,d⟩
  rcases List.mem_cons.mp (I.stkSub p.1 hf) with z | z
  ·exact ne z
  ·exact nf z
 ·unfold capS
  rw [List.length_map]
  exact S.caps.len
theorem Inv.unblock {σ':St} {H':Hp} {s':Shared} {h':Heap} (I:Inv X pins σ H3 s3) (hex:∀ b ∈ ex,FpOk X pins H3 b) (J:Inv (cxC X scope cl N' pins ex s3 H3) [] σ' H' s') (hb:Heap.SameBut s3.heap.objs.size s'.heap h') :
  Inv X pins σ H' { s' with heap:=h' }:=by
 have hfr:H' s3.heap.objs.size = none:=J.free
 refine I.call' (ch:=ex) J.os ⟨fun b o e n h1 h2=>?_,fun b o e n h1 h2=>?_,fun b o e n h2=>?_,fun b o e h2=>?_,J.base.tups,J.base.frzs,J.base.tbls⟩ (fun b ob e=>?_) J.bare fun b hbx=>?_
 ·exact (hb.2 b (Nat.ne_of_lt (Heap.lt_size e))).trans (J.base.keep b o e n h1 h2)
 ·refine o1_1 (J.base.slot b o e n h1 h2) fun sl q=>?_
  exact ⟨sl,(hb.2 b (Nat.ne_of_lt (Heap.lt_size e))).trans q⟩
 ·exact J.base.free b o e n h2
 ·refine o1_1 (J.base.there b o e h2) fun o' q=>?_
  exact ⟨o',(hb.2 b (Nat.ne_of_lt (Heap.lt_size e))).trans q⟩
 ·refine (J.hok b ob e).stay (fun c w' hc q=>(hb.2 c ?_).trans q) (fun _ q=>q) fun _ _ q=>q
  rintro rfl
  rcases hc with z | z
  ·rw [<-z,hfr] at e; cases e
  ·rw [hfr] at z; cases z
 ·refine o0_6 (hex b hbx) fun _ f1 _ f3 f4 f5=>?_
  exact ⟨f3,f1,f4,f5⟩
end
end L2
namespace L2
open PySem PySem.Spec PyProof.Rows
noncomputable def turnOf (e:Expr) (d:Nat) (iter tg:Expr) (ifs:List Expr) (emit:Sem Fin->Sem Fin) (it acc:Value) (env:Env):Sem Fin:=do
 standAt iter.pos
 match <-pyNext it with
 | none=>pure (.done .next)
 | some v =>
  letOwnedTupleGo tg it v
  assign tg env v
  let mut ok:=true
  for c in ifs do
   if ok then ok <-isTrue c env (eval c env)
  if ok then emit (again (.compLoop e d it acc env)) else again (.compLoop e d it acc env)
noncomputable def emL (elt:Expr) (acc:Value) (env:Env) (k:Sem Fin):Sem Fin:=(do let _ <-call (.builtin "list.append") [acc,<-eval elt env]:Sem Unit) >>= fun _=>k
noncomputable def emD (a b:Expr) (D:Addr) (env:Env) (k:Sem Fin):Sem Fin:=(do
   let kv <-eval a env
   let vv <-holding [kv] (eval b env)
   standAt { a.pos with endLine:=b.pos.endLine,endCol:=b.pos.endCol }
   holding [kv,vv] (dictSet D kv vv):Sem Unit) >>= fun _=>k
noncomputable def emS (elt:Expr) (acc:Value) (env:Env) (k:Sem Fin):Sem Fin:=(do let v <-eval elt env; standAt elt.pos; let _ <-call (.builtin "set.add") [acc,v]:Sem Unit) >>= fun _=>k
noncomputable def emN (e iter2:Expr) (d:Nat) (acc:Value) (env:Env) (k:Sem Fin):Sem Fin:=do
    let x <-eval iter2 env
    standAt iter2.pos
    let x <-foldedSetIterable iter2 env x
    let _ <-runOwn (.compStart e d (<-holding [x] (pyIter x)) acc env) env
    k
theorem turnE_list (elt tg iter:Expr) (ifs:List Expr) (scope:Scope) (pos:Pos) (it acc:Value) (env:Env) :
  compTurn (.ListComp elt [⟨tg,iter,ifs,0⟩] scope pos) 0 it acc env = turnOf (.ListComp elt [⟨tg,iter,ifs,0⟩] scope pos) 0 iter tg ifs (emL elt acc env) it acc env:=rfl
theorem turnE_dict (k v tg iter:Expr) (ifs:List Expr) (scope:Scope) (pos:Pos) (it:Value) (D:Addr) (env:Env) :
  compTurn (.DictComp k v [⟨tg,iter,ifs,0⟩] scope pos) 0 it (.ref D) env = turnOf (.DictComp k v [⟨tg,iter,ifs,0⟩] scope pos) 0 iter tg ifs (emD k v D env) it (.ref D) env:=rfl
theorem turnE_set1 (elt tg iter tg2 iter2:Expr) (ifs ifs2:List Expr) (scope:Scope) (pos:Pos) (it acc:Value) (env:Env) :
  compTurn (.SetComp elt [⟨tg,iter,ifs,0⟩,⟨tg2,iter2,ifs2,0⟩] scope pos) 1 it acc env = turnOf (.SetComp elt [⟨tg,iter,ifs,0⟩,⟨tg2,iter2,ifs2,0⟩] scope pos) 1 iter2 tg2 ifs2 (emS elt acc env) it acc env:=rfl
theorem turnE_set0 (elt tg iter tg2 iter2:Expr) (ifs ifs2:List Expr) (scope:Scope) (pos:Pos) (it acc:Value) (env:Env) :
  compTurn (.SetComp elt [⟨tg,iter,ifs,0⟩,⟨tg2,iter2,ifs2,0⟩] scope pos) 0 it acc env = turnOf (.SetComp elt [⟨tg,iter,ifs,0⟩,⟨tg2,iter2,ifs2,0⟩] scope pos) 0 iter tg ifs
   (emN (.SetComp elt [⟨tg,iter,ifs,0⟩,⟨tg2,iter2,ifs2,0⟩] scope pos) iter2 1 acc env) it acc env:=rfl
noncomputable abbrev TEm:=St->Hp->(St->Hp->Prop)->Prop
noncomputable def PEm (X:Cx) (emit:Sem Fin->Sem Fin) (t:TEm):Prop :=
 ∀ (pins:List (Addr × Obj)) (s:Shared) (σ:St) (H:Hp) (Q:St->Hp->Prop) (k:Sem Fin) (F:Fin->Shared->Prop) (E:Value->Shared->Prop),Inv X pins σ H s->t σ H Q ->
  (∀ s' σ' H',Inv X pins σ' H' s'->Q σ' H'->wpAny (model X.prog X.w) X.A k F E s')->wpAny (model X.prog X.w) X.A (emit k) F E s
noncomputable def PTs (X:Cx) (ifs:List Expr) (t:TT):Prop :=
 ∀ (pins:List (Addr × Obj)) (s:Shared) (σ:St) (H:Hp) (Q:Bool->Hp->Prop),Inv X pins σ H s->t σ H Q ->
  wpAny (model X.prog X.w) X.A (forIn ifs true fun c r=>if r = true then do let ok <-isTrue c X.env (eval c X.env); pure (ForInStep.yield ok) else pure (ForInStep.yield r)) (TP X pins σ Q) X.xe s
noncomputable def tTrue:TT:=fun _ H Q=>Q true H
theorem pts_nil {X:Cx}:PTs X [] tTrue:=fun _ _ _ H _ I h=>wpAny_tests_nil ⟨H,I,h⟩
theorem pts_one {X:Cx} {c:Expr} {t:TT} (h:PT X c t):PTs X [c] t:=fun pins s σ H Q I q=>wpAny_tests_one (h pins s σ H Q I q)
noncomputable def Loop (g:TG) (tc:TT) (em:TEm) (J:It) (σ:St) (H:Hp) (Q:St->Hp->Prop):Prop :=
 ∃ W:Nat->Nat->St->Hp->Prop,(∃ m,W 0 m σ H)/\∀ i m σ H,W i m σ H->(J.stop i H/\Q σ H)\/(J.go i H/\∀ x H',J.yld i H x H'->g x σ H' fun σ2 H2=>tc σ2 H2 fun b H3 =>
  if b = true then em σ2 H3 fun σ3 H4=>∃ m',m' < m/\W (i + 1) m' σ3 H4 else ∃ m',m' < m/\W (i + 1) m' σ2 H3)
section
variable {X:Cx} {e tg iter:Expr} {d:Nat} {ifs:List Expr} {emit:Sem Fin->Sem Fin} {it:Addr} {acc:Value} {g:TG} {tc:TT} {em:TEm} {J:It} {fp:List Addr} {tn:Nat->Heap->Prop} {R:Result->Shared->Prop}
theorem comp_loop (hun:X.A.under (.compLoop e d (.ref it) acc X.env) = X.A) (hden:(model X.prog X.w).den (.compLoop e d (.ref it) acc X.env) = (compTurn e d (.ref it) acc X.env).onRaise (fun x=>do noteFrame x X.env; theTreesLotGoes x)) (hc:X.calm = true) (hxe:X.xe = fun _ _=>False) (hct:compTurn e d (.ref it) acc X.env = turnOf e d iter tg ifs emit (.ref it) acc X.env) (hg:PG X tg g) (ht:PTs X ifs tc) (hem:PEm X emit em)
  (T:Turn X.prog X.w X.K tg J fp it tn) {pins:List (Addr × Obj)} {s:Shared} {σ:St} {H:Hp} {Q:St->Hp->Prop} (I:Inv X pins σ H s) (st:tn 0 s.heap) (hf:∀ b ∈ fp,FpOk X pins H b) (h:Loop g tc em J σ H Q)
  (hR:∀ s' σ' H',Inv X pins σ' H' s'->Q σ' H'->R (.ok .next) s'):codeAny (model X.prog X.w) X.A (.compLoop e d (.ref it) acc X.env) R s:=by
 refine o1_2 h fun W zq1 turn=>?_
 try clear h
 refine o1_1 zq1 fun m0 w0=>?_
 have stat:∀ {H':Hp},(∀ b ∈ fp,H' b = none)->∀ b ∈ fp,FpOk X pins H' b:=fun hn b hb=>⟨hn b hb,(hf b hb).2⟩
 have no:∀ {α:Type} {m:Sem α} {P:α->Shared->Prop} {E:Value->Shared->Prop} {s:Shared},wpAny (model X.prog X.w) X.A m P X.xe s->wpAny (model X.prog X.w) X.A m P E s:=fun q=>by
  rw [hxe] at q
  exact wpAny_mono q (fun _ _ z=>z) fun _ _ z=>z.elim
 refine codeAny_loop rfl (fun n s'=>∃ i σ' H',Inv X pins σ' H' s'/\tn i s'.heap/\(∀ b ∈ fp,H' b = none)/\W i n σ' H') (fun n s3 hI=>?_) m0 ⟨0,σ,H,I,st,fun b hb=>(hf b hb).1,w0⟩
 refine o3_4 hI fun i σ3 H3 I3 st3 fr3 w3=>?_
 try clear hI
 rw [hun,hden]
 refine wpAny_noted ?_
 rw [hct]
 unfold turnOf
 refine wpAny_bind (wpAny_standAt (wpAny_bind ?_))
 rcases turn i n σ3 H3 w3 with ⟨stop,qn⟩ | ⟨go,step⟩
 ·refine wpAny_mono (T.done X rfl rfl rfl hc i pins s3 σ3 H3 _ I3 (stat fr3) st3 stop) (fun r s4 zz=>?_) fun _ _ z=>z
  refine o0_2 zz fun hr I4=>?_
  try clear zz
  subst hr
  exact wpAny_pure (hR s4 σ3 H3 I4 qn)
 ·refine wpAny_mono (T.item X rfl rfl rfl hc i pins s3 σ3 H3 _ I3 (stat fr3) st3 go) (fun r s4 zz=>?_) fun _ _ z=>z
  refine o1_2 zz fun u hr h4=>?_
  try clear zz
  subst hr
  refine wpAny_bind (wpAny_mono h4 (fun _ s5 zz=>?_) fun _ _ z=>z)
  refine o2_5 zz fun x H5 I5 r5 y5 st5 fr5=>?_
  try clear zz
  have I5':=I5.pinned (stat fr5) (T.obj _ _ st5)
  have again:∀ {σ7:St} {H7:Hp} {s7:Shared},Inv X (pins ++ pinsAt fp s5.heap) σ7 H7 s7->(∃ m',m' < n/\W (i + 1) m' σ7 H7)->∃ m,m < n/\∃ i σ' H',Inv X pins σ' H' s7/\tn i s7.heap/\(∀ b ∈ fp,H' b = none)/\W i m σ' H':=fun {σ7 H7 s7} I7 n7=>by
   refine o1_2 n7 fun m' hm w7=>?_
   try clear n7
   refine ⟨m',hm,i + 1,σ7,H7,I7.unpinned,T.keep _ _ _ st5 fun b hb o e=>(I7.pin (b,o) (List.mem_append_right _ (List.mem_append_right _ (mem_pinsAt hb e)))).1,fun b hb=>?_,w7⟩
   refine o1_2 (T.obj _ _ st5 b hb) fun o e d=>?_
   exact (I7.pin (b,o) (List.mem_append_right _ (List.mem_append_right _ (mem_pinsAt hb e)))).2.1
  refine wpAny_bind (wpAny_mono (no (hg _ s5 σ3 H5 x u _ I5' r5 (step x H5 y5))) (fun _ s6 zz=>?_) fun _ _ z=>z)
  refine o2_2 zz fun σ6 H6 I6 q6=>?_
  try clear zz
  refine wpAny_bind (wpAny_mono (no (ht _ s6 σ6 H6 _ I6 q6)) (fun ok s7 zz=>?_) fun _ _ z=>z)
  refine o1_2 zz fun H7 I7 q7=>?_
  try clear zz
  cases ok with
  | false=>exact wpAny_pure ⟨rfl,again I7 q7⟩
  | true =>
   exact hem _ s7 σ6 H7 _ _ _ _ I7 q7 fun s8 σ8 H8 I8 q8=>wpAny_pure ⟨rfl,again I8 q8⟩
theorem comp_start (hun:X.A.under (.compStart e d (.ref it) acc X.env) = X.A) (hden:(model X.prog X.w).den (.compStart e d (.ref it) acc X.env) = (compStart e d (.ref it) acc X.env).onRaise (fun x=>do noteFrame x X.env; standAt theWindowsPlace)) {gs:List Comprehension} (hgs:clausesOf e = gs) (hd:gs[d]? = some ⟨tg,iter,ifs,0⟩) {s:Shared} (T:Turn X.prog X.w X.K tg J fp it tn) (st:tn 0 s.heap)
  (h:codeAny (model X.prog X.w) X.A (.compLoop e d (.ref it) acc X.env) R s):codeAny (model X.prog X.w) X.A (.compStart e d (.ref it) acc X.env) R s:=by
 refine codeAny_of_tree ?_
 rw [hun,hden]
 refine wpAny_notedAt ?_
 unfold compStart
 rw [hgs,hd]
 show wpAny _ X.A (ask >>= _) _ _ s
 refine wpAny_bind (wpAny_askSetting (wpAny_ite ?_))
 have h1:=T.self X.A 0 s (fun it' s'=>codeAny (model X.prog X.w) X.A (.compLoop e d it' acc X.env) R s') (notedBy (model X.prog X.w) X.A X.env fun x s'=>R (.error x) s') st h
 split
 ·first
   | exact wpAny_bind (wpAny_pure (wpAny_pure (And.intro rfl h)))
   | exact wpAny_pure (And.intro rfl h)
 ·first
   | exact wpAny_bind (wpAny_rule (wpAny_bind (wpAny_standAt (wpAny_bind (wpAny_mono h1 (fun it' s' h'=>wpAny_pure (And.intro rfl h')) fun _ _ x=>x)))))
   | (refine wpAny_bind (wpAny_rule ?_); show wpAny _ _ (standAt iter.pos >>= _) _ _ s; exact wpAny_bind (wpAny_standAt (wpAny_bind (wpAny_mono h1 (fun it' s' h'=>wpAny_pure (And.intro rfl h')) fun _ _ x=>x))))
end
section
variable {X:Cx} {tg iter:Expr} {ifs:List Expr} {g:TG} {tc:TT} {em:TEm} {scope:Scope} {cl:List (Str × Addr)} {N':List Str} {cap:List (Option Nat)} {pos:Pos} {wi:TI}
noncomputable def tComp (wi:TI) (o:Addr->HO) (cap:List (Option Nat)) (lp:Addr->It->St->Hp->(St->Hp->Prop)->Prop):TE:=fun σ H Q=>wi σ H fun J H1=>∀ D,H1 D = none->lp D J (capS cap σ) (upd H1 D (o D)) fun _ H2=>Q (.ref D) H2
theorem comp_all {e:Expr} {gs:List Comprehension} {newAcc:Sem Value} {p2:Pos} (hcl:clausesOf e = ⟨tg,iter,ifs,0⟩ :: gs) (o:Addr->HO) (hs:∀ x,foldedSetIterable iter X.env x = pure x) (S:CScope X scope cl N' cap) (hc:X.calm = true) (hi:PI X tg iter wi)
  {lp:Addr->It->St->Hp->(St->Hp->Prop)->Prop}
  (hnew:∀ (pins:List (Addr × Obj)) (s:Shared) (σ:St) (H:Hp) (Q:Value->Shared->Prop) (E:Value->Shared->Prop),Inv X pins σ H s->(∀ s',Inv X pins σ (upd H s.heap.objs.size (o s.heap.objs.size)) s'->(∀ b ob,s.heap.get? b = some ob->s'.heap.get? b = some ob)->Q (.ref s.heap.objs.size) s')->wpAny (model X.prog X.w) X.A newAcc Q E s)
  (hlp:∀ (pins:List (Addr × Obj)) (ex:List Addr) (s3:Shared) (H3:Hp) (D it:Addr) (fp:List Addr) (tn:Nat->Heap->Prop) (J:It) (σ:St) (s:Shared) (H:Hp) (Q:St->Hp->Prop) (R:Result->Shared->Prop),
   Turn X.prog X.w X.K tg J fp it tn->Inv (cxC X scope cl N' pins ex s3 H3) [] σ H s->tn 0 s.heap->(∀ b ∈ fp,FpOk (cxC X scope cl N' pins ex s3 H3) [] H b)->lp D J σ H Q ->
   (∀ s' σ' H',Inv (cxC X scope cl N' pins ex s3 H3) [] σ' H' s'->Q σ' H'->R (.ok .next) s') ->
   codeAny (model X.prog X.w) X.A (.compLoop e 0 (.ref it) (.ref D) (compEnvC scope cl s3.heap.objs.size X.env)) R s)
  (hun:∀ it D env,X.A.under (.compStart e 0 (.ref it) (.ref D) env) = X.A) (hden:∀ it D env,(model X.prog X.w).den (.compStart e 0 (.ref it) (.ref D) env) = (compStart e 0 (.ref it) (.ref D) env).onRaise (fun x=>do noteFrame x env; standAt theWindowsPlace))
  (hev:∀ E Q s,wpAny (model X.prog X.w) X.A (comprehension e scope X.env p2 newAcc false (eval iter X.env)) Q E s->wpAny (model X.prog X.w) X.A (eval e X.env) Q E s) :
  PE X e (tComp wi o cap lp):=by
 intro pins s σ H Q I h
 refine hev _ _ _ (wpAny_comprehension_free (use:=none) hcl hs S.clos S.kind S.loc (thn (hi pins s σ H _ I h) fun v s1 h1=>thn h1 fun itv s2 h2=>?_))
 refine o5_6 h2 fun it fp tn J H2 eit I2 T st2 f2 R2=>?_
 try clear h2
 subst eit
 refine hnew pins s2 σ H2 _ _ I2 fun s3 I3 k3=>?_
 have hD:H2 s2.heap.objs.size = none:=I2.hok.fresh (Nat.le_refl _)
 have fok:∀ b ∈ fp,FpOk X pins (upd H2 s2.heap.objs.size (o s2.heap.objs.size)) b/\∃ ob,s3.heap.get? b = some ob:=fun b hb=>by
  refine o1_2 (T.obj _ _ st2 b hb) fun ob e _=>?_
  refine o0_2 (f2 b hb) fun f0 fr=>?_
  exact ⟨⟨by rw [upd_ne (Nat.ne_of_lt (Heap.lt_size e))]; exact f0,fr⟩,ob,k3 b ob e⟩
 refine wpAny_newFunctionEnv S.nocell (by intro y hy; simp at hy) (fun h1 hns hsb=>?_) S.kind
 have hk:∀ b ob,s3.heap.get? b = some ob->h1.get? b = some ob:=fun b ob e=>(hsb.2 b (Nat.ne_of_lt (Heap.lt_size e))).trans (Heap.get?_push_of_some _ e)
 have I4:Inv (cxC X scope cl N' pins fp s3 (upd H2 s2.heap.objs.size (o s2.heap.objs.size))) [] (capS cap σ) (upd H2 s2.heap.objs.size (o s2.heap.objs.size)) { s3 with heap:=h1,toks:=s3.toks + ([]:List (Str × Value)).length } :=
  I3.block S hc fok hns hk
 have st4:tn 0 h1:=T.keep 0 _ _ st2 fun b hb ob e=>hk b ob (k3 b ob e)
 refine comp_start (X:=cxC X scope cl N' pins fp s3 (upd H2 s2.heap.objs.size (o s2.heap.objs.size))) (gs:=⟨tg,iter,ifs,0⟩ :: gs) (e:=e) (d:=0) (tg:=tg) (iter:=iter) (ifs:=ifs) (hun _ _ _) (hden _ _ _) hcl rfl T st4 ?_
 refine hlp pins fp s3 _ s2.heap.objs.size it fp tn J (capS cap σ) _ _ _ _ T I4 st4 (fun b hb=>?_) (R2 _ hD) fun s' σ' H' I' q'=>?_
 ·obtain ⟨zq2,ob,eo⟩:=(fok b hb)
  refine o0_6 zq2 fun f0 f1 f2' f3 f4 f5=>?_
  refine ⟨f0,Nat.ne_of_lt (Heap.lt_size eo),fun hf=>?_,.inl hb,fun x c e=>f4 x c (S.cin.get e),fun p hp=>f5 p (by simpa [cxC] using hp)⟩
  rcases List.mem_cons.mp (I3.stkSub b hf) with z | z
  ·exact f1 z
  ·exact f2' z
 ·refine o1_2 I'.loc fun m hn _=>?_
  exact ⟨m,hn,fun h' hb=>⟨.ref _,H',I3.unblock (fun b hb=>(fok b hb).1) I' hb,rfl,q'⟩⟩
end
end L2
namespace L2
open PySem PySem.Spec PyProof.Rows
section
variable {X:Cx} {tg iter elt:Expr} {ifs:List Expr} {g:TG} {tc:TT} {te:TE} {scope:Scope} {cl:List (Str × Addr)} {N':List Str} {cap:List (Option Nat)} {pos:Pos} {wi:TI}
noncomputable def emLst (D:Addr) (te:TE):TEm:=fun σ H Q=>te σ H fun y H1=>∃ ys,H1 D = some (.lst ys)/\ys.length < sizeLine/\Q σ (upd H1 D (.lst (ys ++ [y])))
theorem no_exc {α:Type} {X:Cx} (hxe:X.xe = fun _ _=>False) {m:Sem α} {P:α->Shared->Prop} {E:Value->Shared->Prop} {s:Shared} (q:wpAny (model X.prog X.w) X.A m P X.xe s):wpAny (model X.prog X.w) X.A m P E s:=by
 rw [hxe] at q
 exact wpAny_mono q (fun _ _ z=>z) fun _ _ z=>z.elim
theorem pem_list {D:Addr} (hxe:X.xe = fun _ _=>False) (he:PE X elt te):PEm X (emL elt (.ref D) X.env) (emLst D te):=by
 intro pins s σ H Q k F E I h hk
 unfold emL
 refine wpAny_bind (wpAny_bind (wpAny_mono (no_exc hxe (he pins s σ H _ I h)) (fun u s1 zz=>?_) fun _ _ z=>z))
 obtain ⟨y,H1,I1,r1,ys,e1,z1,q1⟩:=zz
 refine wpAny_bind (wpAny_mono (no_exc hxe (mt_append pins s1 σ H1 (.ref D) [y] (.ref D) [u] (fun v H2=>v = .non/\Q σ H2) I1 rfl (.cons r1 .nil) ⟨D,ys,y,rfl,rfl,e1,z1,rfl,q1⟩)) (fun v s2 zz=>?_) fun _ _ z=>z)
 refine o2_4 zz fun y2 H2 I2 r2 _ q2=>?_
 try clear zz
 exact wpAny_pure (hk s2 σ H2 I2 q2)
theorem pe_lc (S:CScope X scope cl N' cap) (hc:X.calm = true) (hi:PI X tg iter wi)
  (hb:∀ (pins:List (Addr × Obj)) (ex:List Addr) (s3:Shared) (H3:Hp),PG (cxC X scope cl N' pins ex s3 H3) tg g/\PTs (cxC X scope cl N' pins ex s3 H3) ifs tc/\PE (cxC X scope cl N' pins ex s3 H3) elt te)
  (hs:∀ x,foldedSetIterable iter X.env x = pure x:=by intro _; rfl) :
  PE X (.ListComp elt [⟨tg,iter,ifs,0⟩] scope pos) (tComp wi (fun _=>.lst []) cap fun D J σ H Q=>Loop g tc (emLst D te) J σ H Q):=by
 refine comp_all (newAcc:=newList []) (p2:=firstIterPos [⟨tg,iter,ifs,0⟩] pos) rfl (fun _=>.lst []) hs S hc hi (fun pins s σ H Q E I h=>?_) (fun pins ex s3 H3 D it fp tn J σ s H Q R T I st hf h hR=>?_) (fun _ _ _=>rfl) (fun _ _ _=>rfl) (fun E Q s h=>h)
 ·refine wpAny_newList ?_
  exact h _ (I.lnew (t':=s.toks) (its:=[]) .nil (Nat.zero_le _)) fun b ob e=>Heap.get?_push_of_some _ e
 ·refine o0_3 (hb pins ex s3 H3) fun b1 b2 b3=>?_
  exact comp_loop (X:=cxC X scope cl N' pins ex s3 H3) rfl rfl hc rfl (turnE_list elt tg iter ifs scope pos _ _ _) b1 b2 (pem_list rfl b3) T I st hf h hR
noncomputable def emDct (D:Addr) (tk tv:TE):TEm:=fun σ H Q=>tk σ H fun y H1=>tv σ H1 fun v H2=>∃ kvs k,H2 D = some (.dK kvs)/\y = kV k/\kvs.length < sizeLine/\Q σ (upd H2 D (.dK (putK kvs k v)))
theorem pem_dict {D:Addr} {a b:Expr} {ta tb:TE} (hxe:X.xe = fun _ _=>False) (ha:PE X a ta) (hb:PE X b tb):PEm X (emD a b D X.env) (emDct D ta tb):=by
 intro pins s σ H Q k F E I h hk
 unfold emD
 refine wpAny_bind (wpAny_bind (wpAny_mono (no_exc hxe (ha pins s σ H _ I h)) (fun u s1 zz=>?_) fun _ _ z=>z))
 refine o2_3 zz fun y H1 I1 r1 q1=>?_
 try clear zz
 refine wpAny_bind (wpAny_holding (wpAny_mono (no_exc hxe (hb pins s1 σ H1 _ I1 q1)) (fun r s2 zz=>?_) fun _ _ z=>z))
 obtain ⟨v,H2,I2,rv,kvs,kk,e,ey,l,q2⟩:=zz
 refine wpAny_bind (wpAny_standAt (wpAny_holding ?_))
 subst ey
 obtain ⟨z,hd,vs,rel,dd⟩:=(dk_of I2.hok e)
 have hz:vs.length<=sizeLine:=by rw [<-rel.length]; exact z
 have hl:(putK kvs kk v).length<=sizeLine:=by have:=length_putK kvs kk v; lia
 refine wpAny_dictSet_pairs (hsz:=hz) (kV_is r1) dd fun h' dd' hs=>?_
 have he:∃ q,h'.get? D = some q:=let ⟨q,_,_,hq,_⟩:=dd'; ⟨q,hq⟩
 exact hk _ σ _ (d_write (t':=s2.toks + 1) I2 (by rw [e]; exact True.intro) hs he (dk_new hl hd (rel.put kk rv) dd')) q2
theorem pe_dc {a b:Expr} {ta tb:TE} (S:CScope X scope cl N' cap) (hc:X.calm = true) (hi:PI X tg iter wi)
  (hb:∀ (pins:List (Addr × Obj)) (ex:List Addr) (s3:Shared) (H3:Hp),PG (cxC X scope cl N' pins ex s3 H3) tg g/\PTs (cxC X scope cl N' pins ex s3 H3) ifs tc/\PE (cxC X scope cl N' pins ex s3 H3) a ta/\PE (cxC X scope cl N' pins ex s3 H3) b tb)
  (hs:∀ x,foldedSetIterable iter X.env x = pure x:=by intro _; rfl) :
  PE X (.DictComp a b [⟨tg,iter,ifs,0⟩] scope pos) (tComp wi (fun _=>.dK []) cap fun D J σ H Q=>Loop g tc (emDct D ta tb) J σ H Q):=by
 refine comp_all (newAcc:=newDict) (p2:=firstIterPos [⟨tg,iter,ifs,0⟩] pos) rfl (fun _=>.dK []) hs S hc hi (fun pins s σ H Q E I h=>?_) (fun pins ex s3 H3 D it fp tn J σ s H Q R T I st hf h hR=>?_) (fun _ _ _=>rfl) (fun _ _ _=>rfl) (fun E Q s h=>h)
 ·refine wpAny_newObj_type ?_
  exact h _ (I.laid (a:=s.heap.objs.size) (o:=.dK []) (t':=s.toks) (fun _ _ q=>Heap.get?_push_of_some _ q) (Nat.le_refl _) (dk_empty s.heap I.big)) fun b ob e=>Heap.get?_push_of_some _ e
 ·refine o0_4 (hb pins ex s3 H3) fun b1 b2 b3 b4=>?_
  exact comp_loop (X:=cxC X scope cl N' pins ex s3 H3) rfl rfl hc rfl (turnE_dict a b tg iter ifs scope pos _ _ _) b1 b2 (pem_dict rfl b3 b4) T I st hf h hR
end
instance:LawfulBEq Key where
 rfl {a}:=by cases a with
  | inl i=>show (i == i) = true; simp
  | inr x=>show (x == x) = true; simp
 eq_of_beq {a b} h:=by
  cases a with
  | inl i=>cases b with
   | inl j=>exact congrArg Sum.inl (eq_of_beq (show (i == j) = true from h))
   | inr j=>exact absurd h (by intro z; cases z)
  | inr i=>cases b with
   | inl j=>exact absurd h (by intro z; cases z)
   | inr j=>exact congrArg Sum.inr (eq_of_beq (show (i == j) = true from h))
noncomputable def SetS (P:Program) (w:World) (a:Addr) (l:List Key):HO:=.ext fun h=>h.SetOf (mixKind P w) a (fun k=>decide (k ∈ l)) l.length
section
variable {X:Cx} {pins:List (Addr × Obj)} {σ:St} {H:Hp} {s:Shared} {a:Addr} {l:List Key}
theorem setOk {P:Program} {w:World} {H:Hp} {h:Heap} (z:h.SetOf (mixKind P w) a (fun k=>decide (k ∈ l)) l.length):ObjOk P w H h a (SetS P w a l) :=
 ⟨z,let ⟨o,_,_,_,e,_⟩:=z; ⟨o,e⟩,fun h1 h2 ⟨o,es,ep,t,e,r⟩ k=>⟨o,es,ep,t,k o e,r⟩⟩
theorem Inv.set (I:Inv X pins σ H s) (e:H a = some (SetS X.prog X.w a l)):s.heap.SetOf (mixKind X.prog X.w) a (fun k=>decide (k ∈ l)) l.length:=by
 refine o0_2 ((show ObjOk X.prog X.w H s.heap a (SetS X.prog X.w a l) from I.hok a _ e)) fun z _=>?_
 exact z
theorem key_scan {k:Key} {u:Value} (r:RelV (kV k) u):u.scannable = true:=by
 cases k with
 | inl i=>obtain ⟨t,rfl⟩:=r; rfl
 | inr x=>obtain ⟨t,rfl⟩:=r; rfl
noncomputable def addK (l:List Key) (k:Key):List Key:=if k ∈ l then l else l ++ [k]
theorem setOf_congr {P:Program} {w:World} {h:Heap} {S S':Key->Bool} {n n':Nat} (z:h.SetOf (mixKind P w) a S n) (e:∀ k,S' k = S k) (en:n' = n):h.SetOf (mixKind P w) a S' n':=by
 have:S' = S:=funext e
 subst this; subst en; exact z
theorem call_set0:CallR X (.type "set") (fun xs H Q=>xs = []/\∀ p,H p = none->Q (.ref p) (upd H p (SetS X.prog X.w p []))):=by
 intro pins s σ H xs us Q I r h
 refine o0_2 h fun zq1 q=>?_
 try clear h
 subst zq1
 cases r
 refine call_set_0 fun led=>⟨.ref s.heap.objs.size,_,I.laid (t':=s.toks) (fun b o e=>Heap.get?_push_of_some _ e) (Nat.le_refl _) (setOk ?_),rfl,q _ (I.hok.fresh (Nat.le_refl _))⟩
 exact (setObjOf_fresh led).setOf (Heap.get?_push_size _ rfl) (by decide)
noncomputable def rAddS (P:Program) (w:World):V->List V->Hp->VK->Prop:=fun x vs H Q=>∃ a l k,x = .ref a/\vs = [kV k]/\H a = some (SetS P w a l)/\l.length + 1 < 4096/\Q .non (upd H a (SetS P w a (addK l k)))
theorem mt_add:MtM X "set.add" (rAddS X.prog X.w):=by
 intro pins s σ H x vs v us Q I rx rv h
 refine o3_5 h fun a l k zq2 zq3 hH hz q=>?_
 try clear h
 subst zq2
 subst zq3
 cases rx
 refine o1_2 rv.one fun u zq4 ru=>?_
 subst zq4
 refine call_set_add (kV_is ru) (key_scan ru) (I.set hH) hz fun h' hs z=>?_
 refine ⟨.non,_,I.write (x:=a) (e:=a) (t':=s.toks + 1) (by rw [hH]; exact True.intro) (.inl rfl) (fun b q hb e=>(hs.2 b hb).trans e) (let ⟨o,_,_,_,e,_⟩:=z; ⟨o,e⟩) (setOk (setOf_congr z (fun k'=>?_) ?_)),rfl,q⟩
 ·unfold addK
  by_cases e:k ∈ l
  ·rw [if_pos e]
   by_cases ek:k' = k
   ·subst ek; simp [e]
   ·simp [ek]
  ·rw [if_neg e]
   simp
 ·unfold addK
  by_cases e:k ∈ l
  ·rw [if_pos e]; simp [e]
  ·rw [if_neg e]; simp [e]
noncomputable def rInS (P:Program) (w:World) (neg:Bool):R2:=fun x y H Q=>∃ a l k,y = .ref a/\x = kV k/\H a = some (SetS P w a l)/\Q (.bl (if neg then !decide (k ∈ l) else decide (k ∈ l))) H
theorem op_in_set:OpR X (compareOp .In) (rInS X.prog X.w false):=by
 intro pins s σ H x y v u Q I rx ry h
 refine o3_4 h fun a l k zq5 zq6 hH q=>?_
 try clear h
 subst zq5
 subst zq6
 cases ry
 exact wpAny_inSet_of (kV_is rx) (key_scan rx) (I.set hH) ⟨.bl (decide (k ∈ l)),H,I.tok _,rfl,q⟩
end
section
variable {X:Cx} {tg iter elt tg2 iter2:Expr} {g g2:TG} {tc tc2:TT} {te:TE} {ifs ifs2:List Expr} {scope:Scope} {cl:List (Str × Addr)} {N':List Str} {cap:List (Option Nat)} {pos:Pos} {wi wi2:TI}
noncomputable def emIn (wi:TI) (lp:It->St->Hp->(St->Hp->Prop)->Prop):TEm:=fun σ H Q=>wi σ H fun J H1=>lp J σ H1 Q
end
end L2
namespace L2
open PySem PySem.Spec PyProof.Rows
noncomputable def Its (x:Str):It:=⟨fun i _=>i < x.cps.size,fun i H v H'=>H' = H/\∃ c,x.cps[i]? = some c/\v = .str ⟨#[c]⟩,fun i _=>i = x.cps.size⟩
theorem turn_str {P:Program} {w:World} {K:PySem.W.Frag} {tg:Expr} (it:Addr) (x:Str) (t:Tok) (ty:String) (hty:["enumerate", "zip", "dict_itemiterator", "dict_reverseitemiterator", "odict_iterator", "itertools.zip_longest", "itertools.pairwise"].contains ty = false)
  (W:∀ A':Around,A'.handled = none->Walks P w A' it [it] [it] x.cps.size (SignAt x) (fun i h=>h.IsStrIter it ty x t i))
  (hself:∀ (A:Around) (i:Nat) (s:Shared) (Q:Value->Shared->Prop) (E:Value->Shared->Prop),s.heap.IsStrIter it ty x t i->Q (.ref it) s->wpAny (model P w) A (pyIter (.ref it)) Q E s):Turn P w K tg (Its x) [it] it (fun i h=>h.IsStrIter it ty x t i) where
 mem:=by simp
 obj:=fun i h st b hb=>by
  have e:b = it:=by simpa using hb
  subst e
  refine o1_3 st fun o e c d=>?_
  try clear st
  exact ⟨o,e,fun v z=>by rw [d] at z; cases z⟩
 keep:=fun i h h' st k=>let ⟨o,e,r⟩:=st; ⟨o,k it (by simp) o e,r⟩
 item:=by
  intro X hP hw hK hc i pins s σ H E I hf st hg
  subst hP hw hK
  refine o0_6 (hf it (by simp)) fun f0 f1 f2 f3 f4 f5=>?_
  refine (W X.A (I.ok.hd hc)).item i s _ _ hg st fun v h' tk hv st' k=>?_
  refine o2_2 hv fun c u ec ev=>?_
  try clear hv
  have I1:Inv X pins σ H { s with heap:=h',toks:=tk }:=I.turned (fun b o hb e=>k b o (by simpa using hb) e) f0 f1 f3 f4 f5
  refine o1_3 (id st') fun o e c' d=>?_
  exact ⟨v,rfl,go_of (s:={ s with heap:=h',toks:=tk }) e c' d hty ⟨.str ⟨#[c]⟩,H,I1,⟨u,ev⟩,⟨rfl,c,ec,rfl⟩,st',fun b hb=>(hf b hb).1⟩⟩
 done:=by
  intro X hP hw hK hc i pins s σ H E I hf st hg
  subst hP hw hK
  refine o0_6 (hf it (by simp)) fun f0 f1 f2 f3 f4 f5=>?_
  have hg':i = x.cps.size:=hg
  subst hg'
  exact (W X.A (I.ok.hd hc)).done s _ _ st fun h' tk k=>⟨rfl,I.turned (fun b o hb e=>k b o (by simpa using hb) e) f0 f1 f3 f4 f5⟩
 self:=fun A i s Q E st h=>hself A i s Q E st h
section
variable {X:Cx} {tg:Expr}
noncomputable def iStr (te:TE):TI:=fun σ H R=>te σ H fun x H1=>∃ z,x = .str z/\R (Its z) H1
theorem pi_str {l:Expr} {tl:TE} (hl:PE X l tl):PI X tg l (iStr tl):=by
 intro pins s σ H R I h
 refine thn (hl pins s σ H _ I h) fun v s1 ⟨x,H1,I1,r1,q1⟩=>?_
 refine o1_2 q1 fun z e q=>?_
 try clear q1
 subst e
 refine o1_1 r1 fun t zq1=>?_
 try clear r1
 subst zq1
 have fin:∀ (o:Obj) (ty:String),o.cls = .type ty->o.data = .fields #[.str z t,.int (0:Nat) 0]->o.isFreed = false->Turn X.prog X.w X.K tg (Its z) [s1.heap.objs.size] s1.heap.objs.size (fun i h=>h.IsStrIter s1.heap.objs.size ty z t i) ->
   PIE X pins σ tg R (.ref s1.heap.objs.size) { s1 with heap:=s1.heap.push o }:=fun o ty c d hf T=>by
  refine ⟨s1.heap.objs.size,[s1.heap.objs.size],_,_,H1,rfl,I1.kept (t':=s1.toks) fun b o e=>Heap.get?_push_of_some _ e,T,⟨o,Heap.get?_push_size _ hf,c,d⟩,fun b hb=>?_,q⟩
  have e:b = s1.heap.objs.size:=by simpa using hb
  subst e
  exact I1.fpOk (Nat.le_refl _) (I1.hok.fresh (Nat.le_refl _))
 cases ha:z.cps.all (· < 128)
 ·exact wpAny_pyIter_wide ha (fin _ _ rfl rfl rfl (turn_str _ z t "str_iterator" (by decide) (fun A' hA=>Walks.strWide hA _ z t) fun A i s Q E st h=>wpAny_pyIter_striter_wide st h))
 ·exact wpAny_pyIter_ascii ha (fin _ _ rfl rfl rfl (turn_str _ z t "str_ascii_iterator" (by decide) (fun A' hA=>Walks.strAscii hA _ z t) fun A i s Q E st h=>wpAny_pyIter_striter_ascii st h))
end
section
variable {X:Cx}
theorem call_all (hc:X.calm = true):CallR X (.builtin "all") (fun xs H Q=>∃ (p:Addr) (bs:List Bool),xs = [.ref p]/\SqL X.K H p (bs.map V.bl)/\Q (.bl (bs.all id)) H):=by
 intro pins s σ H xs us Q I r h
 refine o2_3 h fun p bs zq2 hq q=>?_
 try clear h
 subst zq2
 refine o1_2 (vals1 r) fun u zq3 ru=>?_
 subst zq3
 cases ru
 refine o1_3 (I.list hq) fun its rv pl hz=>?_
 refine call_all_walk (wpAny_pyIter_list pl.isList ?_)
 have hne:p ≠ s.heap.objs.size:=by
  refine o2_2 pl fun o n e _=>?_
  try clear pl
  exact Nat.ne_of_lt (Heap.lt_size e)
 refine ⟨s.heap.objs.size,_,_,_,_,_,fun i=>bs.getD i true,rfl,Walks.list (A:=X.A.in1) (show X.A.in1.handled = none from I.ok.hd hc) _ p hne its.toArray,⟨⟨_,Heap.get?_push_size _ rfl,rfl,rfl⟩,?_⟩,fun i v s' Q' E' hv q'=>?_,fun h' tk k=>?_⟩
 ·refine o2_4 pl fun o n e c d e2=>?_
  try clear pl
  exact ⟨o,Heap.get?_push_of_some _ e,c,n,e2⟩
 ·have hb:(bs.map V.bl)[i]? = some (V.bl (bs.getD i true))/\RelV (V.bl (bs.getD i true)) v:=by
   have hv':its[i]? = some v:=by simpa using hv
   have hi:i < its.length:=(List.getElem?_eq_some_iff.mp hv').1
   have hl:=rv.length
   rw [List.length_map] at hl
   have e:(bs.map V.bl)[i]? = some (V.bl (bs.getD i true)):=by
    rw [List.getElem?_map,List.getElem?_eq_getElem (by lia)]
    simp [List.getD_eq_getElem?_getD,List.getElem?_eq_getElem (show i < bs.length by lia)]
   refine o1_2 (rv.get e) fun u hu ru=>?_
   rw [hv'] at hu
   cases hu
   exact ⟨e,ru⟩
  cases hb.2
  exact wpAny_truthy_bool q'
 ·have hl:=rv.length
  rw [List.length_map] at hl
  have e:(List.range its.toArray.size).all (fun i=>bs.getD i true) = bs.all id:=by
   rw [List.size_toArray,<-hl]
   rw [Bool.eq_iff_iff,List.all_eq_true,List.all_eq_true]
   constructor
   ·intro z b hb
    obtain ⟨i,hi,zq4⟩:=(List.mem_iff_getElem.mp hb)
    subst zq4
    have:=z i (List.mem_range.mpr hi)
    simpa [List.getD_eq_getElem?_getD,List.getElem?_eq_getElem hi] using this
   ·intro z i hi
    have hi':=List.mem_range.mp hi
    have:=z bs[i] (List.getElem_mem hi')
    simpa [List.getD_eq_getElem?_getD,List.getElem?_eq_getElem hi'] using this
  rw [e]
  exact ⟨.bl (bs.all id),H,I.kept fun b o eb=>k b o (by
   intro hb
   have:b = s.heap.objs.size:=by simpa using hb
   exact absurd (Heap.lt_size eb) (by rw [this]; exact Nat.lt_irrefl _)) (Heap.get?_push_of_some _ eb),rfl,q⟩
theorem strsAre_of:∀ {ss:List Str} {us:List Value},Vals (ss.map V.str) us->StrsAre us ss
 | [],_,.nil=>.nil
 | _ :: _,_,.cons ⟨t,e⟩ r=>by subst e; exact .cons _ _ (strsAre_of r)
noncomputable def leS (a b:Str):Prop:=¬ b.cps.toList < a.cps.toList
theorem call_sortedS:CallR X (.builtin "sorted") (fun xs H Q=>∃ (p:Addr) (ss:List Str),xs = [.ref p]/\SqL X.K H p (ss.map V.str)/\∀ (l:Addr) (ss':List Str),H l = none->ss'.Perm ss->ss'.Pairwise leS->Q (.ref l) (upd H l (.lst (ss'.map V.str)))):=by
 intro pins s σ H xs us Q I r h
 refine o2_3 h fun p ss zq5 hq q=>?_
 try clear h
 subst zq5
 refine o1_2 (vals1 r) fun u zq6 ru=>?_
 subst zq6
 cases ru
 refine o1_3 (I.list hq) fun its rv pl hz=>?_
 have hS:=strsAre_of rv
 have hl:=rv.length
 refine TS.sorted_gen (collect_list (vs:=its) pl.isList ?_ (by lia))
 refine ⟨rfl,by lia,strKind,oneType',fun s2 _=>TS.keys_strs hS,fun out h' e ho k hg=>?_⟩
 have hsz:((s.heap.push (seqObj "list" #[] 0)).update s.heap.objs.size (Obj.mapSeq (· ++ its.toArray))).objs.size = s.heap.objs.size + 1:=by rw [Heap.size_update,size_push']
 refine o0_2 ho fun hp hs=>?_
 try clear ho
 have hm:∀ v ∈ out.toList,∃ x t,v = .str x t:=fun v hv=>hS.all v (hp.mem_iff.mp hv)
 have hv:Vals ((out.toList.map strOf).map V.str) out.toList:=by
  have:∀ us:List Value,(∀ v ∈ us,∃ x t,v = .str x t)->Vals ((us.map strOf).map V.str) us:=by
   intro us
   induction us with
   | nil=>exact fun _=>.nil
   | cons v r ih =>
    intro h
    refine o2_1 (h v (List.mem_cons_self ..)) fun x t zq7=>?_
    subst zq7
    exact .cons ⟨t,rfl⟩ (ih fun u hu=>h u (List.mem_cons_of_mem _ hu))
  exact this _ hm
 have hperm:(out.toList.map strOf).Perm ss:=by
  have:=hp.map strOf
  rwa [hS.strs] at this
 have hpw:(out.toList.map strOf).Pairwise leS:=by
  rw [List.pairwise_map]
  refine (List.Pairwise.and_mem.mp hs).imp fun {u v} ⟨hu,hv',q⟩=>?_
  refine o2_1 (hm u hu) fun x t zq8=>?_
  subst zq8
  refine o2_1 (hm v hv') fun y t' zq9=>?_
  subst zq9
  have q':decide (y.cps.toList < x.cps.toList) = false:=q
  exact of_decide_eq_false q'
 have hk0:∀ b o,s.heap.get? b = some o->h'.get? b = some o:=fun b o eb=>k b o (by
  rw [Heap.get?_update_ne _ _ _ _ (Nat.ne_of_lt (Heap.lt_size eb))]
  exact Heap.get?_push_of_some _ eb)
 have hn:H (s.heap.objs.size + 1) = none:=I.hok.fresh (Nat.le_succ _)
 have hg':h'.get? (s.heap.objs.size + 1) = some (seqObj "list" out e):=by rw [<-hsz]; exact hg
 refine ⟨.ref (s.heap.objs.size + 1),upd H (s.heap.objs.size + 1) (.lst ((out.toList.map strOf).map V.str)),?_,by show Value.ref _ = _; rw [<-hsz],q _ _ hn hperm hpw⟩
 refine I.laid (t':=s.toks) hk0 (Nat.le_succ _) ⟨?_,out.toList,e,hv,by simpa using hg'⟩
 rw [List.length_map,List.length_map,hp.length_eq]
 lia
end
end L2
namespace L2
open PySem PySem.Spec PyProof.Rows
theorem perm_map_inv {α β:Type} (f:α->β) {l m:List β} (h:l.Perm m):∀ ps:List α,m = ps.map f->∃ ps':List α,ps'.Perm ps/\l = ps'.map f:=by
 induction h with
 | nil=>intro ps e; exact ⟨ps,.refl _,e⟩
 | cons x _ ih =>
  intro ps e
  cases ps with
  | nil=>cases e
  | cons p ps =>
   rw [List.map_cons] at e
   refine o0_2 (List.cons.inj e) fun zq1 e2=>?_
   subst zq1
   refine o1_2 (ih ps e2) fun ps' h1 h2=>?_
   exact ⟨p :: ps',.cons _ h1,by rw [List.map_cons,h2]⟩
 | swap x y l =>
  intro ps e
  match ps,e with
  | p :: q :: ps,e =>
   rw [List.map_cons,List.map_cons] at e
   refine o0_2 (List.cons.inj e) fun zq2 e2=>?_
   subst zq2
   refine o0_2 (List.cons.inj e2) fun zq3 e3=>?_
   subst zq3
   exact ⟨q :: p :: ps,.swap _ _ _,by rw [List.map_cons,List.map_cons,e3]⟩
 | trans _ _ ih1 ih2 =>
  intro ps e
  refine o1_2 (ih2 ps e) fun ps1 h1 h2=>?_
  refine o1_2 (ih1 ps1 h2) fun ps2 h3 h4=>?_
  exact ⟨ps2,h3.trans h1,h4⟩
noncomputable abbrev PA2:=Addr × Str × Str
noncomputable def pkey (q:PA2):List Nat × List Nat:=(q.2.1.cps.toList,q.2.2.cps.toList)
noncomputable def leP (q r:PA2):Prop:=TS.pairLt (pkey r) (pkey q) = false
noncomputable def PairIn (H:Hp) (q:PA2):Prop:=H q.1 = some (.tup [.str q.2.1,.str q.2.2])
theorem vals_refs:∀ {ps:List PA2} {us:List Value},Vals (ps.map fun q=>V.ref q.1) us->us = ps.map fun q=>Value.ref q.1
 | [],_,.nil=>rfl
 | _ :: _,_,.cons r t=>by rw [List.map_cons,vals_refs t]; cases r; rfl
theorem refs_vals:∀ (ps:List PA2),Vals (ps.map fun q=>V.ref q.1) (ps.map fun q=>Value.ref q.1)
 | []=>.nil
 | _ :: ps=>.cons rfl (refs_vals ps)
section
variable {X:Cx}
theorem Inv.pairAt {pins:List (Addr × Obj)} {σ:St} {H:Hp} {s:Shared} {q:PA2} (I:Inv X pins σ H s) (h:PairIn H q):TS.PairAt s.heap (.ref q.1) q.2.1 q.2.2:=by
 refine o1_3 (I.tuple (SqT.of h)) fun its rv zq4 _=>?_
 obtain ⟨o,e,c,n,d⟩:=zq4
 refine o2_3 rv.two fun u1 u2 zq5 zq6 zq7=>?_
 subst zq5
 refine o1_1 zq6 fun t zq8=>?_
 subst zq8
 refine o1_1 zq7 fun t' zq9=>?_
 subst zq9
 exact ⟨q.1,o,n,t,t',rfl,e,c,d⟩
theorem call_sortedP:CallR X (.builtin "sorted") (fun xs H Q=>∃ (p:Addr) (ps:List PA2),xs = [.ref p]/\SqL X.K H p (ps.map fun q=>V.ref q.1)/\(∀ q ∈ ps,PairIn H q) /\
  ∀ (l:Addr) (ps':List PA2),H l = none->ps'.Perm ps->ps'.Pairwise leP->Q (.ref l) (upd H l (.lst (ps'.map fun q=>V.ref q.1)))):=by
 intro pins s σ H xs us Q I r h
 refine o2_4 h fun p ps zq10 hq hpi q=>?_
 try clear h
 subst zq10
 refine o1_2 (vals1 r) fun u zq11 ru=>?_
 subst zq11
 cases ru
 refine o1_3 (I.list hq) fun its rv pl hz=>?_
 have ei:=vals_refs rv
 have hl:=rv.length
 refine TS.sorted_gen (collect_list (vs:=its) pl.isList ?_ (by lia))
 have hsz:((s.heap.push (seqObj "list" #[] 0)).update s.heap.objs.size (Obj.mapSeq (· ++ its.toArray))).objs.size = s.heap.objs.size + 1:=by rw [Heap.size_update,size_push']
 have hk1:∀ b o,s.heap.get? b = some o->((s.heap.push (seqObj "list" #[] 0)).update s.heap.objs.size (Obj.mapSeq (· ++ its.toArray))).get? b = some o:=fun b o eb=>by
  rw [Heap.get?_update_ne _ _ _ _ (Nat.ne_of_lt (Heap.lt_size eb))]
  exact Heap.get?_push_of_some _ eb
 have hpa:∀ q ∈ ps,TS.PairAt s.heap (.ref q.1) q.2.1 q.2.2:=fun q hq=>I.pairAt (hpi q hq)
 refine ⟨rfl,by lia,TS.pairKind s.heap,tuples' true,fun s2 hE=>TS.keys_pairs (fun v hv=>?_) (fun b o eb=>?_),fun out h' e ho k hg=>?_⟩
 ·rw [ei] at hv
  refine o1_2 (List.mem_map.mp hv) fun q hq zq12=>?_
  subst zq12
  exact ⟨_,_,hpa q hq⟩
 ·have hne:b ≠ ((s.heap.push (seqObj "list" #[] 0)).update s.heap.objs.size (Obj.mapSeq (· ++ its.toArray))).objs.size:=by
   rw [hsz]
   exact Nat.ne_of_lt (Nat.lt_succ_of_lt (Heap.lt_size eb))
  exact ⟨hne,hE b o hne (hk1 b o eb)⟩
 ·refine o0_2 ho fun hp hs=>?_
  try clear ho
  rw [ei] at hp
  obtain ⟨ps',h1,h2⟩:=perm_map_inv (fun q:PA2=>Value.ref q.1) hp ps rfl
  have hpw:ps'.Pairwise leP:=by
   rw [h2,List.pairwise_map] at hs
   refine (List.Pairwise.and_mem.mp hs).imp fun {a b} ⟨ha,hb,z⟩=>?_
   have ka:=(hpa a (h1.mem_iff.mp ha)).key
   have kb:=(hpa b (h1.mem_iff.mp hb)).key
   have z':TS.pairLt ((TS.pairOf s.heap (.ref b.1)).getD ([],[])) ((TS.pairOf s.heap (.ref a.1)).getD ([],[])) = false:=z
   rw [ka,kb] at z'
   exact z'
  have hn:H (s.heap.objs.size + 1) = none:=I.hok.fresh (Nat.le_succ _)
  have hg':h'.get? (s.heap.objs.size + 1) = some (seqObj "list" out e):=by rw [<-hsz]; exact hg
  refine ⟨.ref (s.heap.objs.size + 1),upd H (s.heap.objs.size + 1) (.lst (ps'.map fun q=>V.ref q.1)),?_,by show Value.ref _ = _; rw [<-hsz],q _ _ hn h1 hpw⟩
  refine I.laid (t':=s.toks) (fun b o eb=>k b o (hk1 b o eb)) (Nat.le_succ _) ⟨?_,out.toList,e,by rw [h2]; exact refs_vals ps',by simpa using hg'⟩
  rw [List.length_map,h1.length_eq]
  rw [List.length_map] at hz
  exact hz
end
theorem Inv.turnLaid {X:Cx} {pins:List (Addr × Obj)} {σ:St} {H:Hp} {s:Shared} {h':Heap} {t':Nat} {fp:List Addr} {T:Addr} {o:HO} (I:Inv X pins σ H s) (k:∀ b ob,b ∉ fp->s.heap.get? b = some ob->h'.get? b = some ob)
  (hf:∀ b ∈ fp,FpOk X pins H b) (hfo:∀ b ∈ fp,∃ ob,s.heap.get? b = some ob) (hT:s.heap.objs.size<=T) (new:ObjOk X.prog X.w (upd H T o) h' T o):Inv X pins σ (upd H T o) { s with heap:=h',toks:=t' }:=by
 have hn:=I.hok.fresh hT
 have nT:∀ b ob,s.heap.get? b = some ob->b ≠ T:=fun b ob e=>Nat.ne_of_lt (Nat.lt_of_lt_of_le (Heap.lt_size e) hT)
 have nf:∀ b u,H b = some u->b ∉ fp:=fun b u e hb=>by rw [(hf b hb).1] at e; cases e
 refine I.step (g':=s.gens) (d':=s.drawn) (ch:=fp) (fun b hb=>let ⟨_,f1,_,f3,f4,f5⟩:=hf b hb; ⟨f3,f1,f4,f5⟩) (fun b ob _ _ hc e _=>k b ob hc e) (fun b ob _ _ hc e _=>⟨ob.slots,k b ob hc e⟩) (fun b ob _ e n=>by rw [upd_ne (nT b ob e)]; exact n)
  (fun b ob hc e=>⟨ob,k b ob hc e⟩) (fun b xs e=>by rw [upd_ne (ne_of_none e hn)]; exact e) (fun b u xs e=>by rw [upd_ne (ne_of_none e hn)]; exact e) (fun b ps e=>⟨#[],by rw [upd_ne (ne_of_none e hn),e]; simp⟩) (fun m hm=>?_) (fun b u e=>?_) I.bare
 ·refine o3_2 hm fun ob es ep ho r=>?_
  try clear hm
  exact ⟨ob,es,ep,k _ ob (fun hb=>(hf _ hb).2.1 rfl) ho,r⟩
 ·by_cases hb:b = T
  ·subst hb; rw [upd_same] at e; cases e; exact new
  ·rw [upd_ne hb] at e
   refine (I.hok b u e).stay (fun c v hc q=>k c v ?_ q) (fun c q=>by rw [upd_ne (ne_of_none q hn)]; exact q) fun c xs q=>by rw [upd_ne (ne_of_none q hn)]; exact q
   rcases hc with z | z
   ·rw [z]; exact nf b u e
   ·exact nf c _ z
noncomputable def Ite (K:PySem.W.Frag) (a:Addr):It :=
 ⟨fun i H=>∃ xs x,SqL K H a xs/\xs[i]? = some x,fun i H v H'=>∃ T x,v = .ref T/\H T = none/\H' = upd H T (.tup [.int i,x])/\∀ xs,SqL K H a xs->xs[i]? = some x,fun i H=>∃ xs,SqL K H a xs/\xs.length = i⟩
theorem turn_enum {P:Program} {w:World} {K:PySem.W.Frag} {elts:List Expr} {kk:Nat} {tp:Pos} (a it e:Addr) (hei:e ≠ it):Turn P w K (.Tuple elts kk tp) (Ite K a) [e,it] e (fun i h=>(∃ old,IsEnum h e it i old)/\h.IsListIter it a i) where
 mem:=by simp
 obj:=fun i h st b hb=>by
  obtain ⟨zq13,o,h2,c,d⟩:=st
  refine o1_1 zq13 fun old h1=>?_
  rcases List.mem_cons.mp hb with rfl | hb
  ·exact ⟨_,h1,fun v z=>by cases z⟩
  ·rw [List.mem_singleton.mp hb]
   exact ⟨o,h2,fun v z=>by rw [d] at z; cases z⟩
 keep:=fun i h h' st k=>⟨let ⟨old,h1⟩:=st.1; ⟨old,k e (by simp) _ h1⟩,st.2.at fun o x=>k it (by simp) o x⟩
 item:=by
  intro X hP hw hK hc i pins s σ H E I hf st hg
  subst hP hw hK
  refine o2_2 hg fun xs x hq hx=>?_
  try clear hg
  refine o1_3 (I.list hq) fun its rv p hz=>?_
  refine o1_2 (rv.get hx) fun u hu ru=>?_
  refine o0_6 (hf e (by simp)) fun f0 f1 f2 f3 f4 f5=>?_
  refine o0_6 (hf it (by simp)) fun g0 g1 g2 g3 g4 g5=>?_
  have hae:a ≠ e:=fun z=>by
   refine o1_1 st.1 fun old h1=>?_
   refine o2_3 p fun o n e1 c _=>?_
   try clear p
   rw [z,h1] at e1
   cases e1
   exact absurd c (by show ¬ Value.type "enumerate" = Value.type "list"; decide)
  have hai:a ≠ it:=fun z=>by
   refine o1_3 st.2 fun o2 h2 c2 d2=>?_
   refine o2_3 p fun o n e1 c _=>?_
   try clear p
   rw [z,h2] at e1
   cases e1
   rw [c2] at c
   exact absurd c (by decide)
  have hi:i < its.toArray.size:=by
   rw [List.size_toArray]
   exact (List.getElem?_eq_some_iff.mp hu).1
  have W:=WalksT.enumerate (prog:=X.prog) (w:=X.w) (A:=X.A) (I.ok.hd hc) e it a hei hae hai its.toArray
  refine W.item i s _ _ hi ⟨st.1,st.2,p.isList⟩ fun T vals h' tk hv hT ht hm k=>?_
  refine o2_2 hv fun t x' hx' zq14=>?_
  try clear hv
  subst zq14
  have:x' = u:=by
   have:its.toArray[i]? = some u:=by simpa using hu
   rw [this] at hx'
   exact (Option.some.inj hx').symm
  subst this
  refine ⟨.ref T,rfl,W.go elts kk tp i T _ _ _ hm fun h2 st2 k2=>?_⟩
  have hTn:H T = none:=I.hok.fresh hT
  have hTe:T ≠ e:=fun z=>W.apart i T h' hm (by simp [z])
  have hTi:T ≠ it:=fun z=>W.apart i T h' hm (by simp [z])
  have kk2:∀ b o,b ≠ e->b ≠ it->s.heap.get? b = some o->h2.get? b = some o:=fun b o b1 b2 eb=>k2 b o (by simp [b1,b2]) (k b o (by simp [b1,b2]) eb)
  have hT2:h2.IsTuple T #[.int i t,x']:=by
   refine o1_2 ht fun o e1 r=>?_
   try clear ht
   exact ⟨o,k2 T o (by simp [hTe,hTi]) e1,r⟩
  refine ⟨.ref T,upd H T (.tup [.int i,x]),I.turnLaid (fp:=[e,it]) (fun b o hb eb=>kk2 b o (fun z=>hb (by simp [z])) (fun z=>hb (by simp [z])) eb) hf (fun b hb=>?_) hT ⟨?_,[.int i t,x'],.cons ⟨t,rfl⟩ (.cons ru .nil),hT2⟩,rfl,⟨T,x,rfl,hTn,rfl,fun ys hy=>by rw [I.list_inj hy hq]; exact hx⟩,⟨st2.1,st2.2.1⟩,fun b hb=>?_⟩
  ·rcases List.mem_cons.mp hb with rfl | hb
   ·refine o1_1 st.1 fun old h1=>?_
    exact ⟨_,h1⟩
   ·rw [List.mem_singleton.mp hb]
    refine o1_2 st.2 fun o h1 _=>?_
    exact ⟨o,h1⟩
  ·show 2<=sizeLine
   decide
  ·rcases List.mem_cons.mp hb with rfl | hb
   ·rw [upd_ne (Ne.symm hTe)]; exact f0
   ·rw [List.mem_singleton.mp hb,upd_ne (Ne.symm hTi)]; exact g0
 done:=by
  intro X hP hw hK hc i pins s σ H E I hf st hg
  subst hP hw hK
  refine o1_2 hg fun xs hq hx=>?_
  try clear hg
  refine o1_3 (I.list hq) fun its rv p hz=>?_
  refine o0_6 (hf e (by simp)) fun f0 f1 f2 f3 f4 f5=>?_
  refine o0_6 (hf it (by simp)) fun g0 g1 g2 g3 g4 g5=>?_
  have hae:a ≠ e:=fun z=>by
   refine o1_1 st.1 fun old h1=>?_
   refine o2_3 p fun o n e1 c _=>?_
   try clear p
   rw [z,h1] at e1
   cases e1
   exact absurd c (by show ¬ Value.type "enumerate" = Value.type "list"; decide)
  have hai:a ≠ it:=fun z=>by
   refine o1_3 st.2 fun o2 h2 c2 d2=>?_
   refine o2_3 p fun o n e1 c _=>?_
   try clear p
   rw [z,h2] at e1
   cases e1
   rw [c2] at c
   exact absurd c (by decide)
  have W:=WalksT.enumerate (prog:=X.prog) (w:=X.w) (A:=X.A) (I.ok.hd hc) e it a hei hae hai its.toArray
  have hl:=rv.length
  have hi:i = its.toArray.size:=by rw [List.size_toArray]; lia
  rw [hi] at st
  refine W.done s _ _ ⟨st.1,st.2,p.isList⟩ fun h' tk k=>⟨rfl,?_⟩
  have I1:=I.step (h':=h') (H':=H) (t':=tk) (g':=s.gens) (d':=s.drawn) (ch:=[e,it]) (fun b hb=>let ⟨_,f1,_,f3,f4,f5⟩:=hf b hb; ⟨f3,f1,f4,f5⟩) (fun b ob _ _ hc e _=>k b ob hc e) (fun b ob _ _ hc e _=>⟨ob.slots,k b ob hc e⟩) (fun _ _ _ _ n=>n)
   (fun b ob hc e=>⟨ob,k b ob hc e⟩) (fun _ _ e=>e) (fun _ _ _ e=>e) (fun b ps e=>⟨#[],by rw [e]; simp⟩) (fun m hm=>?_) (fun b u eb=>?_) I.bare
  ·exact I1
  ·refine o3_2 hm fun ob es ep ho r=>?_
   try clear hm
   exact ⟨ob,es,ep,k _ ob (fun hb=>(hf _ hb).2.1 rfl) ho,r⟩
  ·have nf:∀ b u,H b = some u->b ∉ [e,it]:=fun b u e hb=>by rw [(hf b hb).1] at e; cases e
   refine (I.hok b u eb).stay (fun c v hc q=>k c v ?_ q) (fun _ q=>q) fun _ _ q=>q
   rcases hc with z | z
   ·rw [z]; exact nf b u eb
   ·exact nf c _ z
 self:=fun A i s Q E st h=>by
  refine o1_1 st.1 fun old he=>?_
  exact wpAny_pyIter_enum he h
section
variable {X:Cx} {elts:List Expr} {kk:Nat} {tp:Pos}
noncomputable def iEnum (K:PySem.W.Frag) (ta:TA):TI:=fun σ H R=>ta σ H fun vs H1=>∃ a xs,vs = [.ref a]/\SqL K H1 a xs/\R (Ite K a) H1
theorem pi_enum {a:Expr} {ta:TA} {p pos:Pos} (hg:Gl X "enumerate") (hm:X.mg "enumerate" = none) (hv:bootBuiltins "enumerate" = some (.type "enumerate")) (ha:PA X [a] ta) (hs:starEach [a] X.env = [(false,eval a X.env)]:=by rfl):PI X (.Tuple elts kk tp) (.Call (.Name "enumerate" p) [a] [] pos) (iEnum X.K ta):=by
 intro pins s σ H R I h
 refine Call_ (ld_blt I hg hm hv (PyProof.Rows.callWith_type1 (thn (ha pos pins s σ H _ I h) fun us s1 ⟨vs,H1,I1,r1,q1⟩=>?_) hs rfl))
 refine o2_3 q1 fun l xs e hq q=>?_
 try clear q1
 subst e
 refine o1_2 (vals1 r1) fun u zq15 ru=>?_
 subst zq15
 cases ru
 refine o1_3 (I1.list hq) fun its rv pl hz=>?_
 refine call_enumerate_list pl.isList fun h' he hit hsz k=>wpAny_pyIter_enum he ?_
 have I2:Inv X pins σ H1 { s1 with heap:=h' }:=I1.kept (t':=s1.toks) k
 refine ⟨s1.heap.objs.size + 1,[s1.heap.objs.size + 1,s1.heap.objs.size],_,_,H1,rfl,I2,turn_enum l s1.heap.objs.size (s1.heap.objs.size + 1) (Nat.succ_ne_self _),⟨⟨_,he⟩,hit⟩,fun b hb=>?_,q⟩
 rcases List.mem_cons.mp hb with z | hb
 ·rw [z]
  exact I1.fpOk (Nat.le_succ _) (I1.hok.fresh (Nat.le_succ _))
 ·rw [List.mem_singleton.mp hb]
  exact I1.fpOk (Nat.le_refl _) (I1.hok.fresh (Nat.le_refl _))
end
end L2
namespace ST
open PySem
noncomputable def stp (mask i:Nat):Nat:=(5 * i + 1) % (mask + 1)
noncomputable def itr (mask:Nat):Nat->Nat->Nat
 | 0,i=>i
 | t + 1,i=>itr mask t (stp mask i)
noncomputable def orb (mask:Nat):Nat->Nat->List Nat
 | 0,_=>[]
 | n + 1,i=>i :: orb mask n (stp mask i)
theorem itr_add (mask a b i:Nat):itr mask (a + b) i = itr mask b (itr mask a i):=by
 induction a generalizing i with
 | zero=>rw [Nat.zero_add]; rfl
 | succ a ih=>rw [Nat.succ_add]; exact ih (stp mask i)
theorem mem_orb {mask j:Nat}:∀ {n i:Nat},j ∈ orb mask n i->∃ t,t < n/\itr mask t i = j
 | 0,_,h=>by simp [orb] at h
 | n + 1,i,h=>by
  rcases List.mem_cons.mp h with rfl | h
  ·exact ⟨0,by lia,rfl⟩
  ·refine o1_2 (mem_orb h) fun t h1 h2=>?_
   exact ⟨t + 1,by lia,h2⟩
noncomputable def Msk (mask:Nat):Prop:=mask = 7\/mask = 31\/mask = 127\/mask = 511
noncomputable def full (mask:Nat):Bool:=(List.range (mask + 1)).all (fun j=>(orb mask (mask + 1) 0).contains j) && itr mask (mask + 1) 0 == 0
theorem full7:full 7 = true:=by decide +kernel
theorem full31:full 31 = true:=by decide +kernel
theorem full127:full 127 = true:=by decide +kernel
theorem full511:full 511 = true:=by decide +kernel
theorem Msk.full {mask:Nat} (h:Msk mask):full mask = true:=by
 rcases h with rfl | rfl | rfl | rfl
 ·exact full7
 ·exact full31
 ·exact full127
 ·exact full511
theorem cyc {mask:Nat} (h:Msk mask) {i j:Nat} (hi:i<=mask) (hj:j<=mask):∃ t,t<=mask/\itr mask t i = j:=by
 have f:=h.full
 unfold ST.full at f
 rw [Bool.and_eq_true,List.all_eq_true] at f
 refine o0_2 f fun f1 f2=>?_
 try clear f
 have f2:itr mask (mask + 1) 0 = 0:=by simpa using f2
 have at_:∀ k,k<=mask->∃ t,t < mask + 1/\itr mask t 0 = k:=fun k hk=>mem_orb (by simpa using f1 k (List.mem_range.mpr (by lia)))
 refine o1_2 (at_ i hi) fun a ha ea=>?_
 refine o1_2 (at_ j hj) fun b hb eb=>?_
 by_cases hab:a<=b
 ·refine ⟨b - a,by lia,?_⟩
  rw [<-ea,<-itr_add,show a + (b - a) = b by lia,eb]
 ·refine ⟨mask + 1 - a + b,by lia,?_⟩
  rw [<-ea,<-itr_add,show a + (mask + 1 - a + b) = (mask + 1) + b by lia,itr_add,f2,eb]
noncomputable def lps (mask:Nat):Nat->Nat × Nat->Nat × Nat
 | 0,x=>x
 | t + 1,x=>lps mask t (SetTable.leap mask x.1 x.2)
theorem lps_add (mask a b:Nat) (x:Nat × Nat):lps mask (a + b) x = lps mask b (lps mask a x):=by
 induction a generalizing x with
 | zero=>rw [Nat.zero_add]; rfl
 | succ a ih=>rw [Nat.succ_add]; exact ih _
theorem lps_pert (mask:Nat):∀ (t:Nat) (x:Nat × Nat),(lps mask t x).2 = x.2 / 32 ^ t
 | 0,x=>by simp [lps]
 | t + 1,x=>by
  show (lps mask t (SetTable.leap mask x.1 x.2)).2 = _
  rw [lps_pert mask t]
  show x.2 / 32 / 32 ^ t = _
  rw [Nat.div_div_eq_div_mul,Nat.pow_succ,Nat.mul_comm]
theorem lps_le (mask:Nat):∀ (t:Nat) (x:Nat × Nat),x.1<=mask->(lps mask t x).1<=mask
 | 0,_,h=>h
 | t + 1,x,_=>lps_le mask t _ (Nat.lt_succ_iff.mp (Nat.mod_lt _ (Nat.succ_pos _)))
theorem lps_zero (mask:Nat):∀ (t i:Nat),lps mask t (i,0) = (itr mask t i,0)
 | 0,_=>rfl
 | t + 1,i=>by
  show lps mask t ((i * 5 + 1 + 0 / 32) % (mask + 1),0 / 32) = _
  rw [Nat.zero_div,Nat.add_zero,lps_zero mask t,Nat.mul_comm]
  rfl
theorem lps_all {mask:Nat} (h:Msk mask) {i j p:Nat} (hi:i<=mask) (hj:j<=mask) (hp:p < 2 ^ 64):∃ t,t<=mask + 13/\(lps mask t (i,p)).1 = j:=by
 have e2:(lps mask 13 (i,p)).2 = 0:=by
  rw [lps_pert]
  exact Nat.div_eq_of_lt (Nat.lt_of_lt_of_le hp (by decide))
 obtain ⟨t,ht,et⟩:=cyc h (lps_le mask 13 (i,p) hi) hj
 refine ⟨13 + t,by lia,?_⟩
 rw [lps_add]
 have:lps mask 13 (i,p) = ((lps mask 13 (i,p)).1,0):=Prod.ext rfl e2
 rw [this,lps_zero]
 exact et
noncomputable def adv (t:SetTable):Nat->SetTable.Probe->SetTable.Probe
 | 0,p=>p
 | n + 1,p=>adv t n (t.advance p)
theorem adv_add (t:SetTable) (a b:Nat) (p:SetTable.Probe):adv t (a + b) p = adv t b (adv t a p):=by
 induction a generalizing p with
 | zero=>rw [Nat.zero_add]; rfl
 | succ a ih=>rw [Nat.succ_add]; exact ih _
theorem adv_run (t:SetTable):∀ (m:Nat) (p:SetTable.Probe),p.more = m->∃ p',adv t (m + 1) p = p'/\p'.i = (SetTable.leap t.mask p.i p.perturb).1/\p'.perturb = (SetTable.leap t.mask p.i p.perturb).2/\p'.j = p'.i/\p'.more = SetTable.runEnd t.mask p'.i - p'.i/\p'.dummy = p.dummy
 | 0,p,h=>by
  have ea:t.advance p = { p with j:=(SetTable.leap t.mask p.i p.perturb).1,more:=SetTable.runEnd t.mask (SetTable.leap t.mask p.i p.perturb).1 - (SetTable.leap t.mask p.i p.perturb).1,i:=(SetTable.leap t.mask p.i p.perturb).1,perturb:=(SetTable.leap t.mask p.i p.perturb).2 }:=by
   unfold SetTable.advance
   rw [if_neg (by lia)]
  refine ⟨t.advance p,rfl,?_⟩
  rw [ea]
  exact ⟨rfl,rfl,rfl,rfl,rfl⟩
 | m + 1,p,h=>by
  have ea:t.advance p = { p with j:=p.j + 1,more:=p.more - 1 }:=by unfold SetTable.advance; rw [if_pos (by lia)]
  obtain ⟨p',h1,h2⟩:=adv_run t m (t.advance p) (by rw [ea]; show p.more - 1 = m; lia)
  rw [ea] at h2
  exact ⟨p',h1,h2⟩
theorem run_le (mask i:Nat):SetTable.runEnd mask i - i<=9:=by unfold SetTable.runEnd; split <;> lia
theorem adv_lps (t:SetTable):∀ (n:Nat) (p:SetTable.Probe),p.j = p.i->p.more = SetTable.runEnd t.mask p.i - p.i->∃ k,k<=10 * n/\(adv t k p).j = (lps t.mask n (p.i,p.perturb)).1
 | 0,p,h1,_=>⟨0,by lia,h1⟩
 | n + 1,p,h1,h2=>by
  refine o1_6 (adv_run t p.more p rfl) fun p' e a1 a2 a3 a4 _=>?_
  refine o1_2 (adv_lps t n p' a3 a4) fun k hk ek=>?_
  have:=run_le t.mask p.i
  refine ⟨p.more + 1 + k,by lia,?_⟩
  rw [adv_add,e,ek,a1,a2]
  rfl
theorem adv_dummy (t:SetTable):∀ (n:Nat) (p:SetTable.Probe),(adv t n p).dummy = p.dummy
 | 0,_=>rfl
 | n + 1,p=>by
  show (adv t n (t.advance p)).dummy = _
  rw [adv_dummy t n]
  unfold SetTable.advance
  split <;> rfl
theorem probe_all {t:SetTable} (hm:Msk t.mask) (h:Int) {j:Nat} (hj:j<=t.mask):∃ n,n < 10 * SetTable.turns t.mask/\(adv t n (t.probeStart h)).j = j:=by
 have hb:SetTable.bits h < 2 ^ 64:=by
  unfold SetTable.bits
  have h1:0<=h % (2 ^ 64:Int):=Int.emod_nonneg _ (by decide)
  have h2:h % (2 ^ 64:Int) < 2 ^ 64:=Int.emod_lt_of_pos _ (by decide)
  lia
 have hi:SetTable.bits h % (t.mask + 1)<=t.mask:=Nat.lt_succ_iff.mp (Nat.mod_lt _ (Nat.succ_pos _))
 refine o1_2 (lps_all hm hi hj hb) fun n hn en=>?_
 refine o1_2 (adv_lps t n (t.probeStart h) rfl rfl) fun k hk ek=>?_
 refine ⟨k,by unfold SetTable.turns; lia,ek.trans en⟩
theorem slot_cases {t:SetTable} (hd:t.dummies = #[]) (j:Nat):t.slot j = .empty\/∃ i,t.slot j = .live i/\t.place[i]? = some j:=by
 unfold SetTable.slot
 dsimp only
 by_cases h:(t.place[SetTable.below t.place j]? == some j) = true
 ·rw [if_pos h]
  exact .inr ⟨_,rfl,by simpa using h⟩
 ·rw [if_neg h]
  have:SetTable.has t.dummies j = false:=by
   rw [hd]
   unfold SetTable.has
   simp
  rw [this]
  exact .inl rfl
theorem some_empty {t:SetTable} (hd:t.dummies = #[]) (hs:t.place.size<=t.mask):∃ j,j<=t.mask/\t.slot j = .empty:=by
 by_cases h:∃ j,j<=t.mask/\t.slot j = .empty
 ·exact h
 ·exfalso
  have all:∀ j ∈ List.range (t.mask + 1),j ∈ t.place.toList:=fun j hj=>by
   have hj':j<=t.mask:=by have:=List.mem_range.mp hj; lia
   rcases slot_cases hd j with e | ⟨i,_,e⟩
   ·exact absurd ⟨j,hj',e⟩ h
   ·exact List.mem_of_getElem? (by rw [Array.getElem?_toList]; exact e)
  have:=(List.nodup_range (n:=t.mask + 1)).length_le_of_subset all
  rw [List.length_range,Array.length_toList] at this
  lia
theorem go_met {t:SetTable} (hd:t.dummies = #[]) (hashAt:Nat->Int) (h:Int) (p:SetTable.Probe) (hpd:p.dummy = none):∀ (k m n fuel:Nat),m + k = n->t.slot (adv t n p).j = .empty->k < fuel ->
  (∃ j,SetTable.probe.go t hashAt h fuel (adv t m p) = some (.empty j none)/\t.slot j = .empty) \/
   ∃ l i,m<=l/\l < n/\t.slot (adv t l p).j = .live i/\hashAt i = h/\SetTable.probe.go t hashAt h fuel (adv t m p) = some (.candidate (adv t l p).j i (adv t (l + 1) p))
 | k,m,n,0,_,_,hf=>absurd hf (Nat.not_lt_zero _)
 | k,m,n,fuel + 1,e,he,hf=>by
  have hdm:(adv t m p).dummy = none:=(adv_dummy t m p).trans hpd
  have nx:adv t (m + 1) p = t.advance (adv t m p):=adv_add t m 1 p
  rcases slot_cases hd (adv t m p).j with es | ⟨i,es,ep⟩
  ·refine .inl ⟨(adv t m p).j,?_,es⟩
   unfold SetTable.probe.go
   rw [es,hdm]
  ·have hk:k ≠ 0:=by
    rintro rfl
    have:m = n:=by lia
    subst this
    rw [he] at es; cases es
   by_cases hh:hashAt i = h
   ·refine .inr ⟨m,i,Nat.le_refl _,by lia,es,hh,?_⟩
    unfold SetTable.probe.go
    rw [es]
    dsimp only
    rw [if_pos (by simpa using hh),nx]
   ·have eg:SetTable.probe.go t hashAt h (fuel + 1) (adv t m p) = SetTable.probe.go t hashAt h fuel (adv t (m + 1) p):=by
     conv=>lhs; unfold SetTable.probe.go
     rw [es]
     dsimp only
     rw [if_neg (by simpa using hh),nx]
    rcases go_met hd hashAt h p hpd (k - 1) (m + 1) n fuel (by lia) he (by lia) with ⟨j,h1,h2⟩ | ⟨l,i',h1,h2,h3,h4,h5⟩
    ·exact .inl ⟨j,eg.trans h1,h2⟩
    ·exact .inr ⟨l,i',by lia,h2,h3,h4,eg.trans h5⟩
end ST
namespace ST
open PySem
theorem fm_congr {α β:Type} {f g:α->Option β}:∀ {l:List α},(∀ x ∈ l,f x = g x)->l.filterMap f = l.filterMap g
 | [],_=>rfl
 | a :: r,h=>by
  have h1:=h a (List.mem_cons_self ..)
  have h2:=fm_congr (l:=r) fun x hx=>h x (List.mem_cons_of_mem _ hx)
  rw [List.filterMap_cons,List.filterMap_cons,h1,h2]
theorem fm_one {α:Type} {f g:Nat->Option α} {j:Nat} {k:α} (hg:g j = some k) (hf:f j = none):∀ {l:List Nat},l.Nodup->j ∈ l->(∀ i,i ≠ j->g i = f i)->(l.filterMap g).Perm (k :: l.filterMap f)
 | [],_,h,_=>by simp at h
 | i :: r,nd,h,he=>by
  refine o0_2 (List.nodup_cons.mp nd) fun n1 n2=>?_
  by_cases e:i = j
  ·subst e
   have er:r.filterMap g = r.filterMap f:=fm_congr fun x hx=>he x fun z=>n1 (z ▸ hx)
   rw [List.filterMap_cons_some hg,List.filterMap_cons_none hf,er]
  ·have hr:=fm_one hg hf n2 ((List.mem_cons.mp h).resolve_left fun z=>e z.symm) he
   cases ef:f i with
   | none=>rw [List.filterMap_cons_none ((he i e).trans ef),List.filterMap_cons_none ef]; exact hr
   | some b =>
    rw [List.filterMap_cons_some ((he i e).trans ef),List.filterMap_cons_some ef]
    exact (List.Perm.cons b hr).trans (List.Perm.swap _ _ _)
noncomputable def ocs (mask:Nat) (ow:Array (Option Nat)):List Nat:=(List.range (mask + 1)).filterMap fun j=>ow.getD j none
structure LI (mask:Nat) (ow:Array (Option Nat)) (k:Nat):Prop where
 sz:ow.size = mask + 1
 pm:(ocs mask ow).Perm (List.range k)
theorem free_ok {mask:Nat} {ow:Array (Option Nat)} {j:Nat} (hj:ow[j]? = some none):∀ (t fuel i p:Nat),(lps mask t (i,p)).1 = j->t < fuel->∃ j',SetTable.layClean.free mask ow fuel i p = some j'/\ow[j']? = some none
 | t,0,_,_,_,h=>absurd h (Nat.not_lt_zero _)
 | t,fuel + 1,i,p,e,h=>by
  unfold SetTable.layClean.free
  cases q:(List.range (SetTable.runEnd mask i + 1 - i)).find? fun k=>(ow.getD (i + k) (some 0)).isNone with
  | some k =>
   refine ⟨i + k,rfl,?_⟩
   have:=List.find?_some q
   rw [Array.getD_eq_getD_getElem?] at this
   cases g:ow[i + k]? with
   | none=>rw [g] at this; simp at this
   | some z=>rw [g] at this; simp at this; rw [this]
  | none =>
   dsimp only
   cases t with
   | zero =>
    exfalso
    have e':i = j:=e
    subst e'
    have hr:0 ∈ List.range (SetTable.runEnd mask i + 1 - i):=List.mem_range.mpr (by unfold SetTable.runEnd; split <;> lia)
    have:=List.find?_eq_none.mp q 0 hr
    rw [Array.getD_eq_getD_getElem?,Nat.add_zero,hj] at this
    simp at this
   | succ t=>exact free_ok hj t fuel _ _ e (by lia)
theorem LI.room {mask:Nat} {ow:Array (Option Nat)} {k:Nat} (h:LI mask ow k) (hk:k<=mask):∃ j,j<=mask/\ow[j]? = some none:=by
 by_cases q:∃ j,j<=mask/\ow[j]? = some none
 ·exact q
 ·exfalso
  have all:∀ j ∈ List.range (mask + 1),∃ v,ow.getD j none = some v:=fun j hj=>by
   have hj':j < ow.size:=by rw [h.sz]; exact List.mem_range.mp hj
   cases e:ow[j]? with
   | none=>rw [Array.getElem?_eq_none_iff] at e; lia
   | some v =>
    cases v with
    | none=>exact absurd ⟨j,by have:=List.mem_range.mp hj; lia,e⟩ q
    | some v=>exact ⟨v,by rw [Array.getD_eq_getD_getElem?,e]; rfl⟩
  have hl:∀ l:List Nat,(∀ j ∈ l,∃ v,ow.getD j none = some v)->(l.filterMap fun j=>ow.getD j none).length = l.length:=by
   intro l
   induction l with
   | nil=>intro _; rfl
   | cons j r ih =>
    intro ha
    refine o1_1 (ha j (List.mem_cons_self ..)) fun v hv=>?_
    rw [List.filterMap_cons_some (f:=fun j=>ow.getD j none) hv,List.length_cons,List.length_cons,ih fun x hx=>ha x (List.mem_cons_of_mem _ hx)]
  have:=h.pm.length_eq
  unfold ocs at this
  rw [hl _ all,List.length_range,List.length_range] at this
  lia
theorem LI.put {mask:Nat} {ow:Array (Option Nat)} {k j:Nat} (h:LI mask ow k) (hj:ow[j]? = some none):LI mask (ow.setIfInBounds j (some k)) (k + 1):=by
 have hlt:j < ow.size:=by
  obtain ⟨h1,_⟩:=Array.getElem?_eq_some_iff.mp hj
  exact h1
 refine ⟨by rw [Array.size_setIfInBounds]; exact h.sz,?_⟩
 have p:=fm_one (f:=fun j=>ow.getD j none) (g:=fun i=>(ow.setIfInBounds j (some k)).getD i none) (j:=j) (k:=k) (by rw [Array.getD_eq_getD_getElem?,Array.getElem?_setIfInBounds_self_of_lt hlt]; rfl) (by rw [Array.getD_eq_getD_getElem?,hj]; rfl)
  (l:=List.range (mask + 1)) List.nodup_range (List.mem_range.mpr (by rw [<-h.sz]; exact hlt)) fun i hi=>by
   rw [Array.getD_eq_getD_getElem?,Array.getElem?_setIfInBounds_ne (Ne.symm hi),<-Array.getD_eq_getD_getElem?]
 have e:List.range (k + 1) = List.range k ++ [k]:=List.range_succ
 refine p.trans ?_
 rw [e]
 exact (List.Perm.cons k h.pm).trans (List.perm_append_comm (l₁:=[k]))
theorem bits_lt (h:Int):SetTable.bits h < 2 ^ 64:=by
 unfold SetTable.bits
 have h1:0<=h % (2 ^ 64:Int):=Int.emod_nonneg _ (by decide)
 have h2:h % (2 ^ 64:Int) < 2 ^ 64:=Int.emod_lt_of_pos _ (by decide)
 lia
theorem lay_ok {mask:Nat} (hm:Msk mask):∀ (hs:List Int) (ow:Array (Option Nat)) (k:Nat),LI mask ow k->k + hs.length<=mask->∃ ow',(hs.foldl (init:=some (ow,k)) fun acc h=>do
   let (owner,k) <-acc
   let j <-SetTable.layClean.free mask owner (SetTable.turns mask) (SetTable.bits h % (mask + 1)) (SetTable.bits h)
   pure (owner.setIfInBounds j (some k),k + 1)) = some (ow',k + hs.length)/\LI mask ow' (k + hs.length)
 | [],ow,k,h,_=>⟨ow,rfl,h⟩
 | x :: r,ow,k,h,hk=>by
  rw [List.length_cons] at hk
  refine o1_2 (h.room (by lia)) fun j hj ej=>?_
  obtain ⟨t,ht,et⟩:=lps_all hm (i:=SetTable.bits x % (mask + 1)) (j:=j) (Nat.lt_succ_iff.mp (Nat.mod_lt _ (Nat.succ_pos _))) hj (bits_lt x)
  obtain ⟨j',h1,h2⟩:=free_ok ej t (SetTable.turns mask) _ _ et (by unfold SetTable.turns; lia)
  obtain ⟨ow',h3,h4⟩:=lay_ok hm r (ow.setIfInBounds j' (some k)) (k + 1) (h.put h2) (by lia)
  refine ⟨ow',?_,by rw [List.length_cons,show k + (r.length + 1) = k + 1 + r.length by lia]; exact h4⟩
  rw [List.foldl_cons]
  show List.foldl _ ((SetTable.layClean.free mask ow (SetTable.turns mask) (SetTable.bits x % (mask + 1)) (SetTable.bits x)).bind fun j=>some (ow.setIfInBounds j (some k),k + 1)) r = _
  rw [h1]
  show List.foldl _ (some (ow.setIfInBounds j' (some k),k + 1)) r = _
  rw [List.length_cons,show k + (r.length + 1) = k + 1 + r.length by lia]
  exact h3
theorem laid_ok {mask:Nat} (hm:Msk mask) (finger moves:Nat) (led plain:Bool) (hs:Array Int) (hn:hs.size<=mask) :
  ∃ place order,SetTable.laid mask finger moves led plain hs = some ({ mask,place,dummies:=#[],finger,led,moves,plain },order)/\place.size = hs.size/\order.toList.Perm (List.range hs.size):=by
 have h0:LI mask (Array.replicate (mask + 1) none) 0:=by
  refine ⟨Array.size_replicate,?_⟩
  have:ocs mask (Array.replicate (mask + 1) none) = []:=by
   unfold ocs
   rw [List.filterMap_eq_nil_iff]
   intro j hj
   rw [Array.getD_eq_getD_getElem?,Array.getElem?_replicate]
   split <;> rfl
  rw [this]
  exact List.Perm.refl _
 obtain ⟨ow,h1,h2⟩:=lay_ok hm hs.toList _ 0 h0 (by rw [Array.length_toList]; lia)
 rw [Nat.zero_add,Array.length_toList] at h1 h2
 have hc:SetTable.layClean mask hs = some ow:=by
  unfold SetTable.layClean
  rw [<-Array.foldl_toList,h1]
  rfl
 have e2:((List.range (mask + 1)).filterMap fun j=>(ow.getD j none).map (j,·)).map (·.2) = ocs mask ow:=by
  unfold ocs
  rw [List.map_filterMap]
  refine fm_congr fun j _=>?_
  cases ow.getD j none <;> rfl
 refine ⟨(((List.range (mask + 1)).filterMap fun j=>(ow.getD j none).map (j,·)).map (·.1)).toArray,(((List.range (mask + 1)).filterMap fun j=>(ow.getD j none).map (j,·)).map (·.2)).toArray,?_,?_,?_⟩
 ·unfold SetTable.laid
  rw [hc]
  rfl
 ·rw [List.size_toArray,List.length_map,<-List.length_map (f:=(·.2)),e2,h2.pm.length_eq,List.length_range]
 ·show (((List.range (mask + 1)).filterMap fun j=>(ow.getD j none).map (j,·)).map (·.2)).Perm _
  rw [e2]
  exact h2.pm
theorem order_es {es:Array (Int × Value)} {order:Array Nat} (h:order.toList.Perm (List.range es.size)):(order.filterMap (es[·]?)).toList.Perm es.toList:=by
 rw [Array.toList_filterMap]
 refine (h.filterMap _).trans (List.Perm.of_eq ?_)
 refine List.ext_getElem? fun t=>?_
 have:(List.range es.size).filterMap (fun x=>es[x]?) = es.toList:=by
  have:∀ (l:List (Int × Value)),(List.range l.length).filterMap (fun x=>l[x]?) = l:=by
   intro l
   induction l with
   | nil=>rfl
   | cons a r ih =>
    rw [List.length_cons,List.range_succ_eq_map,List.filterMap_cons_some (by rfl:(a :: r)[0]? = some a),List.filterMap_map]
    congr 1
  have q:=this es.toList
  rw [Array.length_toList] at q
  simpa using q
 rw [this]
end ST
namespace ST
open PySem
section
variable {prog:Program} {w:World} {K:Type} [DecidableEq K] {knd:KeyKind prog w K} {A:Around} {E:Value->Shared->Prop} {s:Shared}
structure Tab (t:SetTable) (n:Nat):Prop where
 dm:t.dummies = #[]
 pl:t.place.size = n
 mm:Msk t.mask
 rm:n * 5 < t.mask * 3
theorem Tab.fits {t:SetTable} {n:Nat} (h:Tab t n):t.fits n = true:=by
 have:=h.rm
 have:=h.pl
 unfold SetTable.fits SetTable.fill
 rw [h.dm]
 simp
 lia
theorem Tab.odd {t:SetTable} {n:Nat} (h:Tab t n):t.gaveWay = false:=by
 unfold SetTable.gaveWay
 rcases h.mm with e | e | e | e <;> rw [e] <;> rfl
noncomputable def Els (knd:KeyKind prog w K) (es:Array (Int × Value)) (ks:List (List K × Addr)):Prop:=es.toList.Perm (ks.map fun q=>((tupleKind knd).hash q.1,Value.ref q.2))
noncomputable def TSet (knd:KeyKind prog w K) (h:Heap) (a:Addr) (ks:List (List K × Addr)):Prop:=∃ o es ep t,h.get? a = some o/\o.ExactSet/\o.data = .set es ep t/\Els knd es ks/\Tab t es.size
theorem Els.get {es:Array (Int × Value)} {ks:List (List K × Addr)} (h:Els knd es ks) {i:Nat} {e:Int × Value} (he:es[i]? = some e):∃ k p,(k,p) ∈ ks/\e = ((tupleKind knd).hash k,.ref p):=by
 have:e ∈ es.toList:=List.mem_of_getElem? (by rw [Array.getElem?_toList]; exact he)
 refine o1_2 (List.mem_map.mp (h.mem_iff.mp this)) fun q hq zq1=>?_
 subst zq1
 exact ⟨q.1,q.2,hq,rfl⟩
theorem forIn_still {β:Type} {c:β} {f:Value->β->Sem (ForInStep β)}:∀ {l:List Value},(∀ y ∈ l,f y c = pure (.yield c))->forIn l c f = pure c
 | [],_=>List.forIn_nil
 | a :: r,h=>by
  rw [List.forIn_cons,h a (List.mem_cons_self ..),pure_bind]
  exact forIn_still fun y hy=>h y (List.mem_cons_of_mem _ hy)
theorem items_key {ks:List K} {vs:List Value} (h:ItemsAre knd ks vs):∀ v ∈ vs,∃ x,knd.is x v = true:=by
 induction h with
 | nil=>intro v hv; simp at hv
 | cons h1 _ ih =>
  intro v hv
  rcases List.mem_cons.mp hv with rfl | hv
  ·exact ⟨_,h1⟩
  ·exact ih v hv
noncomputable def Flat (knd:KeyKind prog w K):Prop:=∀ v,(∃ x,knd.is x v = true)->carriedByValue v = true
theorem Flat.no {v:Value} (hF:Flat knd) (h:∃ x,knd.is x v = true) (d:Nat):ofAClassStatement d v = pure false:=by
 have:=hF v h
 cases v <;> first
  | (cases d <;> rfl)
  | (exact absurd this (by intro z; cases z))
theorem own_no {k:List K} {p:Addr} {Q:Bool->Shared->Prop} (hF:Flat knd) (hk:(tupleKind knd).is s.heap k p) (h:Q false s):wpAny (model prog w) A (ofAClassStatement 8 (.ref p)) Q E s:=by
 refine o3_4 hk fun o items n ho hc hd hi=>?_
 try clear hk
 have hT:s.TypeIs (.ref p) "tuple":=⟨o,ho,hc⟩
 unfold ofAClassStatement
 refine wpAny_bind (wpAny_typeOf hT ?_)
 dsimp only
 rw [if_pos (by rfl)]
 refine wpAny_bind (wpAny_pure ?_)
 simp only [Bool.not_true,Bool.false_eq_true,if_false]
 refine wpAny_bind (wpAny_seqItems ho hd ?_)
 dsimp only
 rw [<-Array.forIn_toList,forIn_still fun y hy=>by rw [hF.no (items_key hi y hy)]; rfl]
 exact wpAny_bind (wpAny_pure (wpAny_pure h))
theorem unseen {kx:List K} {px:Addr} {Q:Bool->Shared->Prop} (hF:Flat knd) (hx:(tupleKind knd).is s.heap kx px) (h:Q false s) {l:List Value} (hl:∀ v ∈ l,∃ k p,v = .ref p/\(tupleKind knd).is s.heap k p) :
  wpAny (model prog w) A (searchCouldBeSeen (.ref px) l) Q E s:=by
 unfold searchCouldBeSeen
 refine wpAny_bind (wpAny_forIn_list _ (fun rest c s'=>s' = s/\c = (none,())/\∀ v ∈ rest,v ∈ l) _ ?_ ?_ l _ ⟨rfl,rfl,fun _ h=>h⟩)
 ·intro v rest c s' zq2
  refine o0_3 zq2 fun zq3 zq4 hr=>?_
  subst zq3
  subst zq4
  refine o2_2 (hl v (hr v (List.mem_cons_self ..))) fun k p zq5 hk=>?_
  subst zq5
  dsimp only
  have hc:carriedByValue (Value.ref px) = false:=rfl
  rw [hc,Bool.false_and,Bool.or_false]
  split
  ·exact wpAny_pure ⟨rfl,rfl,fun u hu=>hr u (List.mem_cons_of_mem _ hu)⟩
  ·refine wpAny_bind ((tupleKind knd).quiet hx ?_)
   simp only [Bool.not_true,Bool.false_eq_true,if_false]
   refine wpAny_bind ((tupleKind knd).quiet hk ?_)
   simp only [Bool.not_true,Bool.false_eq_true,if_false]
   refine wpAny_bind (own_no hF hx ?_)
   simp only [Bool.false_eq_true,if_false]
   refine wpAny_bind (own_no hF hk ?_)
   simp only [Bool.false_eq_true,if_false]
   exact wpAny_pure ⟨rfl,rfl,fun u hu=>hr u (List.mem_cons_of_mem _ hu)⟩
 ·intro c s' zq6
  refine o0_3 zq6 fun zq7 zq8 _=>?_
  subst zq7
  subst zq8
  exact wpAny_pure h
end
end ST
namespace ST
open PySem
section
variable {prog:Program} {w:World} {K:Type} [DecidableEq K] {knd:KeyKind prog w K} {A:Around} {E:Value->Shared->Prop} {s:Shared}
theorem same_mem (t:SetTable):t.sameMemory t.moves t.mask = some true:=by
 unfold SetTable.sameMemory
 simp
theorem search_from {a:Addr} {o:Obj} {es:Array (Int × Value)} {ep:Nat} {t:SetTable} {ks:List (List K × Addr)} {kx:List K} {px:Addr} {adding:Bool} {Q:SetFound->Shared->Prop} {n:Nat}
  (hr:(tupleKind knd).room A) (hF:Flat knd) (ho:s.heap.get? a = some o) (hd:o.data = .set es ep t) (hE:Els knd es ks) (hT:Tab t es.size)
  (hks:∀ q ∈ ks,(tupleKind knd).is s.heap q.1 q.2) (hx:(tupleKind knd).is s.heap kx px) (hne:∀ q ∈ ks,q.1 ≠ kx) (hn:n < 10 * SetTable.turns t.mask)
  (he:t.slot (adv t n (t.probeStart ((tupleKind knd).hash kx))).j = .empty) (h:∀ j,t.slot j = .empty->Q (.free j false) s) :
  ∀ (k m fuel:Nat) (stand:Option SetTable.Probe),stand.getD (t.probeStart ((tupleKind knd).hash kx)) = adv t m (t.probeStart ((tupleKind knd).hash kx))->m + k = n->k < fuel ->
   wpAny (model prog w) A (setSearchFrom a (.ref px) ((tupleKind knd).hash kx) adding fuel stand) Q E s:=by
 intro k
 induction k using Nat.strongRecOn with
 | _ k ih =>
  intro m fuel stand hst hmk hf
  cases fuel with
  | zero=>lia
  | succ fuel =>
   unfold setSearchFrom
   refine wpAny_bind (wpAny_setState_of ho hd hT.fits ?_)
   dsimp only
   rw [hT.odd]
   simp only [Bool.false_eq_true,if_false]
   rw [hst]
   unfold SetTable.probe
   rcases go_met hT.dm _ ((tupleKind knd).hash kx) (t.probeStart ((tupleKind knd).hash kx)) rfl k m n (10 * SetTable.turns t.mask) hmk he (by lia) with ⟨j,e1,e2⟩ | ⟨l,i,h1,h2,e1,e2,e3⟩
   ·rw [e1]
    exact wpAny_pure (h j e2)
   ·rw [e3]
    dsimp only
    obtain ⟨i',hi',hpl⟩:∃ i',t.slot (adv t l (t.probeStart ((tupleKind knd).hash kx))).j = .live i'/\t.place[i']? = some (adv t l (t.probeStart ((tupleKind knd).hash kx))).j:=by
     rcases slot_cases hT.dm (adv t l (t.probeStart ((tupleKind knd).hash kx))).j with z | z
     ·rw [z] at e1; cases e1
     ·exact z
    rw [e1] at hi'; cases hi'
    have hlt:i < es.size:=by
     have:=(Array.getElem?_eq_some_iff.mp hpl).1
     rw [hT.pl] at this; exact this
    obtain ⟨ent,hent⟩:∃ ent,es[i]? = some ent:=⟨es[i],Array.getElem?_eq_some_iff.mpr ⟨hlt,rfl⟩⟩
    refine o2_2 (hE.get hent) fun k' p' hm' zq1=>?_
    subst zq1
    have hseen:∀ v ∈ (es.filter (·.1 == (tupleKind knd).hash kx)).toList.map (·.2),∃ k p,v = .ref p/\(tupleKind knd).is s.heap k p:=by
     intro v hv
     refine o1_2 (List.mem_map.mp hv) fun z hz zq2=>?_
     subst zq2
     have hz':z ∈ es.toList:=by
      rw [Array.toList_filter] at hz
      exact (List.mem_filter.mp hz).1
     refine o1_2 (List.mem_map.mp (hE.mem_iff.mp hz')) fun q hq zq3=>?_
     subst zq3
     exact ⟨q.1,q.2,rfl,hks q hq⟩
    have rest:wpAny (model prog w) A (do
      let some (_,y):=es[i]? | unsupported "internal:set-entry"
      let equal <-holding [y] (eqBool y (.ref px))
      let (es',_,t') <-setState a
      if adding && equal then return .there none
      let some same:=t'.sameMemory t.moves t.mask | unsupported "set.changed-during-lookup:is-the-new-block-at-the-old-address"
      let still <-match (if same then t'.slot (adv t l (t.probeStart ((tupleKind knd).hash kx))).j else .empty) with
       | .live i'=>match es'[i']? with
        | some (_,y')=>do pure (if <-isSame y' y then some i' else none)
        | none=>pure none
       | _=>pure none
      match still with
      | none=>rule "set.search.anew"; setSearchFrom a (.ref px) ((tupleKind knd).hash kx) adding fuel none
      | some i'=>if equal then return .there (some i') else setSearchFrom a (.ref px) ((tupleKind knd).hash kx) adding fuel (some (adv t (l + 1) (t.probeStart ((tupleKind knd).hash kx))))) Q E s:=by
     rw [hent]
     refine wpAny_bind (wpAny_holding ((tupleKind knd).eqBool hr (hks _ hm') hx ?_))
     rw [decide_eq_false (hne _ hm')]
     refine wpAny_bind (wpAny_setState_of ho hd hT.fits ?_)
     dsimp only
     rw [same_mem,Bool.and_false]
     simp only [Bool.false_eq_true,if_false,if_true]
     rw [e1]
     dsimp only
     rw [hent]
     refine wpAny_bind (wpAny_isSame_ref_self (wpAny_bind (wpAny_pure ?_)))
     simp only [if_true]
     exact ih (n - (l + 1)) (by lia) (l + 1) fuel _ rfl (by lia) (by lia)
    cases hled:t.led with
    | true =>
     simp only [Bool.not_true,Bool.false_eq_true,if_false]
     exact rest
    | false =>
     simp only [Bool.not_false,if_true]
     refine wpAny_bind (unseen hF hx ?_ hseen)
     simp only [Bool.false_eq_true,if_false]
     exact rest
theorem search_free {a:Addr} {o:Obj} {es:Array (Int × Value)} {ep:Nat} {t:SetTable} {ks:List (List K × Addr)} {kx:List K} {px:Addr} {adding:Bool} {Q:SetFound->Shared->Prop}
  (hr:(tupleKind knd).room A) (hF:Flat knd) (ho:s.heap.get? a = some o) (hd:o.data = .set es ep t) (hE:Els knd es ks) (hT:Tab t es.size)
  (hks:∀ q ∈ ks,(tupleKind knd).is s.heap q.1 q.2) (hx:(tupleKind knd).is s.heap kx px) (hne:∀ q ∈ ks,q.1 ≠ kx) (h:∀ j,t.slot j = .empty->Q (.free j false) s) :
  wpAny (model prog w) A (setSearch a (.ref px) ((tupleKind knd).hash kx) adding) Q E s:=by
 obtain ⟨j,hj,hs⟩:=some_empty hT.dm (by rw [hT.pl]; have:=hT.rm; lia)
 refine o1_2 (probe_all hT.mm ((tupleKind knd).hash kx) hj) fun n hn e=>?_
 unfold setSearch
 refine search_from hr hF ho hd hE hT hks hx hne hn (by rw [e]; exact hs) h n 0 100000 none rfl (by lia) ?_
 have:SetTable.turns t.mask<=526:=by
  unfold SetTable.turns
  rcases hT.mm with e | e | e | e <;> lia
 lia
theorem TSet.typeIs {a:Addr} {ks:List (List K × Addr)} (h:TSet knd s.heap a ks):s.TypeIs (.ref a) "set":=let ⟨o,_,_,_,ho,hc,_⟩:=h; ⟨o,ho,hc.1⟩
theorem no_scan {px:Addr} {es:Array (Int × Value)}:byScan (.ref px) es = false:=rfl
theorem find_free {a:Addr} {ks:List (List K × Addr)} {kx:List K} {px:Addr} {Q:Option Nat->Shared->Prop} (hr:(tupleKind knd).room A) (hF:Flat knd) (hS:TSet knd s.heap a ks)
  (hks:∀ q ∈ ks,(tupleKind knd).is s.heap q.1 q.2) (hx:(tupleKind knd).is s.heap kx px) (hne:∀ q ∈ ks,q.1 ≠ kx) (h:Q none s):wpAny (model prog w) A (setFind a (.ref px) ((tupleKind knd).hash kx)) Q E s:=by
 refine o4_5 hS fun o es ep t ho _ hd hE hT=>?_
 try clear hS
 unfold setFind setFindIn
 refine wpAny_bind (wpAny_setState_of ho hd hT.fits ?_)
 dsimp only
 rw [no_scan]
 simp only [Bool.false_eq_true,if_false]
 refine wpAny_bind (search_free hr hF ho hd hE hT hks hx hne fun j _=>?_)
 exact wpAny_pure h
theorem in_free {neg:Bool} {a:Addr} {ks:List (List K × Addr)} {kx:List K} {px:Addr} {Q:Value->Shared->Prop} (hr:A.units + 1 < cLine) (hF:Flat knd) (hS:TSet knd s.heap a ks)
  (hks:∀ q ∈ ks,(tupleKind knd).is s.heap q.1 q.2) (hx:(tupleKind knd).is s.heap kx px) (hne:∀ q ∈ ks,q.1 ≠ kx) (h:Q (.bool false) { s with toks:=s.toks + (tupleKind knd).draws kx }) :
  wpAny (model prog w) A (compareOp .In (.ref px) (.ref a)) Q E s:=by
 show wpAny _ _ (do return .bool (<-contains (.ref a) (.ref px))) Q E s
 refine wpAny_bind ?_
 unfold contains
 try with_reducible refine wpAny_holding ?_
 refine wpAny_bind (wpAny_specialOf hS.typeIs F.slot_set_contains.lookup ?_)
 show wpAny _ _ (if (some (Value.builtin "set.__contains__") == some Value.none) = true then _ else _) _ E s
 rw [if_neg (by rw [beq_builtin_none]; exact Bool.false_ne_true)]
 refine wpAny_bind (wpAny_callSpecialUnlessNone?_slot (name:=Str.ofString "__contains__") hS.typeIs F.slot_set_contains
  (wpAny_call_entry F.slot_set_contains hS.typeIs entry_set_contains ?_ (F.args_set_contains_2 _ _)))
 unfold Builtin.«frozenset.__contains__» Builtin.Frozenset.oneOther
 simp only [List.isEmpty_nil,bind_assoc]
 unfold Builtin.Frozenset.addrOf Builtin.Frozenset.withSetAsKey setContains
 refine wpAny_bind (wpAny_pure ?_)
 try dsimp only
 refine wpAny_bind (wpAny_pure ?_)
 try dsimp only
 refine wpAny_bind (wpAny_tryCatch ?_)
 refine wpAny_holding ?_
 refine wpAny_bind ((tupleKind knd).pyHash ?hroom hx ?_)
 case hroom=>exact hr
 refine wpAny_bind (find_free (s:={ s with toks:=s.toks + (tupleKind knd).draws kx }) ?hroom hF hS hks hx hne ?_)
 case hroom=>exact hr
 refine wpAny_pure ?_
 show wpAny _ _ (ret (Value.bool false)) _ _ _
 exact wpAny_pure ⟨_,rfl,wpAny_truthy_bool (wpAny_pure h)⟩
end
end ST
namespace ST
open PySem
section
variable {prog:Program} {w:World} {K:Type} [DecidableEq K] {knd:KeyKind prog w K} {A:Around} {E:Value->Shared->Prop} {s:Shared}
noncomputable def Scan (knd:KeyKind prog w K):Prop:=∀ v,(∃ x,knd.is x v = true)->v.scannable = true
theorem hbv {kx:List K} {px:Addr} {Q:Bool->Shared->Prop} (hB:Scan knd) (hx:(tupleKind knd).is s.heap kx px) (h:∀ b,Q b s):wpAny (model prog w) A (hashByValue 8 (.ref px)) Q E s:=by
 refine o3_4 hx fun o items n ho hc hd hi=>?_
 try clear hx
 have hT:s.TypeIs (.ref px) "tuple":=⟨o,ho,hc⟩
 unfold hashByValue
 refine wpAny_bind (wpAny_specialOf hT F.slot_tuple_hash.lookup ?_)
 refine wpAny_bind (wpAny_seqItems ho hd ?_)
 dsimp only [Option.getD_some]
 rw [<-Array.forIn_toList]
 refine wpAny_bind (wpAny_mono (wpAny_forIn_list _ (fun rest c s'=>s' = s/\c = (none,())/\∀ v ∈ rest,v ∈ items.toList) (fun c s'=>s' = s/\(c = (none,())\/c = (some false,()))) ?_ ?_ _ _ ⟨rfl,rfl,fun _ z=>z⟩) ?_ fun _ _ q=>q)
 ·intro v rest c s' zq1
  refine o0_3 zq1 fun zq2 zq3 hr=>?_
  subst zq2
  subst zq3
  rw [hashByValue_scannable _ (hB v (items_key hi v (hr v (List.mem_cons_self ..))))]
  refine wpAny_bind (wpAny_pure ?_)
  cases plainKind v with
  | true =>
   simp only [Bool.not_true,Bool.false_eq_true,if_false]
   exact wpAny_pure ⟨rfl,rfl,fun u hu=>hr u (List.mem_cons_of_mem _ hu)⟩
  | false =>
   simp only [Bool.not_false,if_true]
   exact wpAny_pure ⟨rfl,.inr rfl⟩
 ·intro c s' zq4
  refine o0_3 zq4 fun zq5 zq6 _=>?_
  subst zq5
  subst zq6
  exact ⟨rfl,.inl rfl⟩
 ·rintro c s' ⟨rfl,rfl | rfl⟩
  ·exact wpAny_pure (h _)
  ·exact wpAny_pure (h _)
theorem insertAt_size {α:Type} (xs:Array α) (p:Nat) (x:α) (hp:p<=xs.size):(SetTable.insertAt xs p x).size = xs.size + 1:=by
 unfold SetTable.insertAt
 rw [Array.size_append,Array.size_push,Array.size_extract,Array.size_extract]
 lia
theorem insertAt_perm {α:Type} (xs:Array α) (p:Nat) (x:α) (hp:p<=xs.size):(SetTable.insertAt xs p x).toList.Perm (xs.toList ++ [x]):=by
 unfold SetTable.insertAt
 rw [Array.toList_append,Array.toList_push,Array.toList_extract,Array.toList_extract]
 simp only [List.extract_eq_take_drop,List.drop_zero,Nat.sub_zero]
 have e:List.take (xs.size - p) (List.drop p xs.toList) = List.drop p xs.toList:=by
  rw [List.take_of_length_le]
  rw [List.length_drop,Array.length_toList]
  lia
 rw [e]
 have e2:xs.toList = xs.toList.take p ++ xs.toList.drop p:=(List.take_append_drop ..).symm
 conv=>rhs; rw [e2]
 rw [List.append_assoc,List.append_assoc]
 exact List.Perm.append_left _ List.perm_append_comm
theorem below_go_le (xs:Array Nat) (j:Nat):∀ (f lo hi:Nat),lo<=hi->SetTable.below.go xs j f lo hi<=hi
 | 0,lo,hi,h=>h
 | f + 1,lo,hi,h=>by
  unfold SetTable.below.go
  split
  ·rename_i h'
   dsimp only
   split
   ·exact below_go_le xs j f _ _ (by lia)
   ·exact Nat.le_trans (below_go_le xs j f _ _ (by lia)) (by lia)
  ·exact h
theorem below_le (xs:Array Nat) (j:Nat):SetTable.below xs j<=xs.size:=below_go_le xs j _ _ _ (Nat.zero_le _)
theorem put_eq {t:SetTable} (hd:t.dummies = #[]) (j:Nat):t.put j = ({ t with place:=SetTable.insertAt t.place (SetTable.below t.place j) j },SetTable.below t.place j):=by
 unfold SetTable.put
 have:SetTable.has t.dummies j = false:=by
  rw [hd]; unfold SetTable.has; simp
 rw [this]
 rfl
theorem sz20:SetTable.sizeAbove 20 = 32:=by decide
theorem sz76:SetTable.sizeAbove 76 = 128:=by decide
theorem sz308:SetTable.sizeAbove 308 = 512:=by decide
theorem relay_ok {f:Array (Int × Value)->Option (SetTable × Array Nat)->Sem (Array (Int × Value) × SetTable)} (hf:∀ es laid,f es laid = (do
  let some (t,order):=laid | unsupported "internal:set-table-without-room"
  let es':=order.filterMap (es[·]?)
  if es'.size != es.size then unsupported "internal:set-table-lost-an-element"
  pure (es',t)))
  {a:Addr} {o:Obj} {es:Array (Int × Value)} {ep:Nat} {t:SetTable} {n m:Nat} {Q:Unit->Shared->Prop} (ho:s.heap.get? a = some o) (hd:o.data = .set es ep t) (hdm:t.dummies = #[]) (hfit:t.fits es.size = true)
  (hm:SetTable.sizeAbove n = m + 1) (hmm:Msk m) (hsz:es.size * 5 < m * 3)
  (h:∀ (es':Array (Int × Value)) (t':SetTable),es'.toList.Perm es.toList->Tab t' es'.size->Q () { s with heap:=s.heap.update a (Obj.putSet es' t') }) :
  wpAny (model prog w) A (do
   let (es,_,t) <-setState a
   if SetTable.sizeAbove n > sizeLine then unsupported "set:memory"
   let (es,t) <-f es (t.relaid (es.map (·.1)) n)
   storeSet a es t) Q E s:=by
 refine wpAny_bind (wpAny_setState_of ho hd hfit ?_)
 dsimp only
 have hm512:m<=511:=by rcases hmm with e | e | e | e <;> lia
 rw [hm,if_neg (by rw [sizeLine_eq]; lia)]
 rw [hf]
 have hs:(es.map (·.1)).size<=m:=by rw [Array.size_map]; lia
 obtain ⟨place,order,e1,e2,e3⟩:=laid_ok hmm t.finger (t.movedTo (SetTable.sizeAbove n - 1)) t.led t.plain (es.map (·.1)) hs
 have e0:t.relaid (es.map (·.1)) n = some ({ mask:=m,place,dummies:=#[],finger:=t.finger,led:=t.led,moves:=t.movedTo (SetTable.sizeAbove n - 1),plain:=t.plain },order):=by
  unfold SetTable.relaid
  rw [hm]
  rw [hm] at e1
  exact e1
 rw [e0]
 dsimp only
 have hp:(order.filterMap (es[·]?)).toList.Perm es.toList:=order_es (by rw [Array.size_map] at e3; exact e3)
 have hz:(order.filterMap (es[·]?)).size = es.size:=by rw [<-Array.length_toList,hp.length_eq,Array.length_toList]
 rw [if_neg (by rw [hz]; simp)]
 refine wpAny_bind (wpAny_pure ?_)
 refine wpAny_storeSet_of ho hd (h _ _ hp ⟨rfl,?_,hmm,?_⟩) (by rw [hz,sizeLine_eq]; lia)
 ·rw [hz,e2,Array.size_map]
 ·rw [hz]; exact hsz
theorem set_get {h:Heap} {a:Addr} {o:Obj} {es:Array (Int × Value)} {ep:Nat} {t:SetTable} (ho:h.get? a = some o) (hd:o.data = .set es ep t) (es':Array (Int × Value)) (t':SetTable) :
  (h.update a (Obj.putSet es' t')).get? a = some { o with data:=.set es' (ep + 1) t' }:=by
 have:=Heap.get?_update_self (Obj.putSet es' t') ho (by rw [putSet_of es' t' hd]; rfl)
 rw [putSet_of es' t' hd] at this; exact this
theorem add_hashed {a:Addr} {ks:List (List K × Addr)} {kx:List K} {px:Addr} {Q:Bool->Shared->Prop} (hr:(tupleKind knd).room A) (hF:Flat knd) (hB:Scan knd) (hS:TSet knd s.heap a ks)
  (hks:∀ q ∈ ks,(tupleKind knd).is s.heap q.1 q.2) (hx:(tupleKind knd).is s.heap kx px) (hne:∀ q ∈ ks,q.1 ≠ kx) (hl:ks.length + 1<=300)
  (h:∀ h',Heap.SameBut a s.heap h'->TSet knd h' a (ks ++ [(kx,px)])->Q true { s with heap:=h' }) :
  wpAny (model prog w) A (setAddHashed a (.ref px) ((tupleKind knd).hash kx)) Q E s:=by
 refine o4_5 hS fun o es ep t ho hex hd hE hT=>?_
 try clear hS
 have hsz:es.size = ks.length:=by
  have:=hE.length_eq
  rw [Array.length_toList,List.length_map] at this; exact this
 unfold setAddHashed setAddHashedIn
 refine wpAny_holding ?_
 refine wpAny_bind (wpAny_setState_of ho hd hT.fits ?_)
 dsimp only
 rw [no_scan]
 simp only [Bool.false_eq_true,if_false]
 refine wpAny_bind (search_free hr hF ho hd hE hT hks hx hne fun j hj=>?_)
 refine wpAny_bind (wpAny_setState_of ho hd hT.fits ?_)
 rw [put_eq hT.dm]
 dsimp only
 have hb:=below_le t.place j
 have hb':SetTable.below t.place j<=es.size:=by rw [hT.pl] at hb; exact hb
 have hrm:=hT.rm
 have hmm:=hT.mm
 have hsz1:=insertAt_size es (SetTable.below t.place j) ((tupleKind knd).hash kx,Value.ref px) hb'
 have hpm:=insertAt_perm es (SetTable.below t.place j) ((tupleKind knd).hash kx,Value.ref px) hb'
 have hE1:∀ es':Array (Int × Value),es'.toList.Perm (SetTable.insertAt es (SetTable.below t.place j) ((tupleKind knd).hash kx,Value.ref px)).toList->Els knd es' (ks ++ [(kx,px)]):=fun es' hp=>by
  unfold Els
  rw [List.map_append]
  exact hp.trans (hpm.trans (hE.append_right _))
 have key:∀ t1:SetTable,t1.dummies = #[]->t1.mask = t.mask->t1.place.size = es.size + 1->wpAny (model prog w) A (do
   storeSet a (SetTable.insertAt es (SetTable.below t.place j) ((tupleKind knd).hash kx,Value.ref px)) t1
   if (!false && t1.tooFull) = true then do
    setRelay a (SetTable.grown (es.size + 1))
    pure true
   else pure true) Q E s:=by
  intro t1 d1 m1 p1
  refine wpAny_bind (wpAny_storeSet_of ho hd ?_ (by rw [hsz1,sizeLine_eq]; lia))
  have ho1:=set_get ho hd (SetTable.insertAt es (SetTable.below t.place j) ((tupleKind knd).hash kx,Value.ref px)) t1
  have sb1:=Heap.SameBut.update s.heap a (Obj.putSet (SetTable.insertAt es (SetTable.below t.place j) ((tupleKind knd).hash kx,Value.ref px)) t1)
  have htf:t1.tooFull = decide ((es.size + 1) * 5 ≥ t.mask * 3):=by
   unfold SetTable.tooFull SetTable.fill
   rw [d1,m1,p1]
   rfl
  rw [htf,Bool.not_false,Bool.true_and]
  by_cases hfull:(es.size + 1) * 5 ≥ t.mask * 3
  ·rw [decide_eq_true hfull,if_pos rfl]
   have hcase:∃ m,SetTable.sizeAbove (SetTable.grown (es.size + 1)) = m + 1/\Msk m/\(es.size + 1) * 5 < m * 3:=by
    have hg:SetTable.grown (es.size + 1) = (es.size + 1) * 4:=by
     unfold SetTable.grown
     rw [if_neg (by lia)]
    rw [hg]
    rcases hmm with e | e | e | e
    ·have:es.size + 1 = 5:=by lia
     rw [this]
     exact ⟨31,sz20,.inr (.inl rfl),by decide⟩
    ·have:es.size + 1 = 19:=by lia
     rw [this]
     exact ⟨127,sz76,.inr (.inr (.inl rfl)),by decide⟩
    ·have:es.size + 1 = 77:=by lia
     rw [this]
     exact ⟨511,sz308,.inr (.inr (.inr rfl)),by decide⟩
    ·lia
   refine o1_3 hcase fun m c1 c2 c3=>?_
   try clear hcase
   refine wpAny_bind ?_
   unfold setRelay
   refine relay_ok (fun _ _=>rfl) (s:={ s with heap:=_ }) ho1 rfl d1 ?_ c1 c2 (by rw [hsz1]; exact c3) fun es' t' hp ht=>?_
   ·unfold SetTable.fits SetTable.fill
    rw [hsz1,p1,d1,m1]
    have h300:es.size + 1 + 0<=t.mask:=by rcases hmm with e | e | e | e <;> lia
    simp
    lia
   ·refine wpAny_pure (h _ (sb1.trans (Heap.SameBut.update _ a _)) ?_)
    exact ⟨_,es',_,t',set_get ho1 rfl es' t',hex,rfl,hE1 es' hp,ht⟩
  ·rw [decide_eq_false hfull,if_neg (by decide)]
   refine wpAny_pure (h _ sb1 ⟨_,_,_,t1,ho1,hex,rfl,hE1 _ (.refl _),⟨d1,?_,?_,?_⟩⟩)
   ·rw [p1,hsz1]
   ·rw [m1]; exact hmm
   ·rw [m1,hsz1]; lia
 have hps:(SetTable.insertAt t.place (SetTable.below t.place j) j).size = es.size + 1:=by rw [insertAt_size _ _ _ hb,hT.pl]
 cases hpl:t.plain with
 | true =>
  simp only [if_true]
  refine wpAny_bind (hbv hB hx fun b=>?_)
  cases b with
  | true =>
   simp only [if_true]
   exact key _ hT.dm rfl hps
  | false =>
   simp only [Bool.false_eq_true,if_false]
   exact key _ hT.dm rfl hps
 | false =>
  simp only [Bool.false_eq_true,if_false]
  refine wpAny_bind (wpAny_pure ?_)
  simp only [if_true]
  exact key _ hT.dm rfl hps
theorem call_add {a:Addr} {ks:List (List K × Addr)} {kx:List K} {px:Addr} {Q:Value->Shared->Prop} (hr:A.units + 1 < cLine) (hF:Flat knd) (hB:Scan knd) (hS:TSet knd s.heap a ks)
  (hks:∀ q ∈ ks,(tupleKind knd).is s.heap q.1 q.2) (hx:(tupleKind knd).is s.heap kx px) (hne:∀ q ∈ ks,q.1 ≠ kx) (hl:ks.length + 1<=300)
  (h:∀ h',Heap.SameBut a s.heap h'->TSet knd h' a (ks ++ [(kx,px)])->Q .none { s with heap:=h',toks:=s.toks + (tupleKind knd).draws kx }) :
  wpAny (model prog w) A (call (.builtin "set.add") [.ref a,.ref px]) Q E s:=by
 refine wpAny_call_entry F.slot_set_add hS.typeIs F.entry_set_add ?_ (F.args_set_add_2 _ _)
 unfold Builtin.«set.add» Builtin.Frozenset.oneOther
 simp only [List.isEmpty_nil,bind_assoc]
 unfold Builtin.Frozenset.addrOf setAdd
 refine wpAny_bind (wpAny_pure ?_)
 try dsimp only
 refine wpAny_bind (wpAny_pure ?_)
 try dsimp only
 refine wpAny_bind ?_
 refine wpAny_holding ?_
 refine wpAny_bind ((tupleKind knd).pyHash ?hroom hx ?_)
 case hroom=>exact hr
 refine add_hashed (s:={ s with toks:=s.toks + (tupleKind knd).draws kx }) ?hroom hF hB hS hks hx hne hl fun h' hsb hS'=>?_
 case hroom=>exact hr
 show wpAny _ _ (ret Value.none) _ _ _
 exact wpAny_pure ⟨_,rfl,h h' hsb hS'⟩
end
end ST
namespace ST
open PySem
theorem owner_si:Manifest.owners.lookup (String.ofList ['r','o','t','a','r','e','t','i','_','t','e','s'].reverse) = some Manifest.sig_set_iterator:=by kernel_rfl
theorem slot_si_next:Slot "set_iterator" "__next__" "set_iterator.__next__" :=
 .of (owner := "set_iterator") (n := "__next__") (by rw [typeLookup_type,builtinLookup_eq_fast]; kernel_rfl) (by decide +kernel) (by decide +kernel) (by decide +kernel) (by first | exact .inl (by decide +kernel) | exact .inr (by decide +kernel)) (by rw [isSubtype_type]; kernel_rfl)
theorem entry_si_next:entryFor table "set_iterator.__next__" = some Builtin.«set_iterator.__next__»:=entryFor_of_tree (by kernel_rfl)
theorem args_si_next (a:Value):argsOk "set_iterator.__next__" ⟨[a],[]⟩:=by
 unfold argsOk; rw [signature?_of (id := "set_iterator.__next__") (n:=['_','_','t','x','e','n','_','_']) (o:=['r','o','t','a','r','e','t','i','_','t','e','s']) (by kernel_rfl) owner_si]; kernel_rfl
theorem slot_si_iter:Slot "set_iterator" "__iter__" "set_iterator.__iter__" :=
 .of (owner := "set_iterator") (n := "__iter__") (by rw [typeLookup_type,builtinLookup_eq_fast]; kernel_rfl) (by decide +kernel) (by decide +kernel) (by decide +kernel) (by first | exact .inl (by decide +kernel) | exact .inr (by decide +kernel)) (by rw [isSubtype_type]; kernel_rfl)
theorem args_si_iter (a:Value):argsOk "set_iterator.__iter__" ⟨[a],[]⟩:=by
 unfold argsOk; rw [signature?_of (id := "set_iterator.__iter__") (n:=['_','_','r','e','t','i','_','_']) (o:=['r','o','t','a','r','e','t','i','_','t','e','s']) (by kernel_rfl) owner_si]; kernel_rfl
theorem entry_si_iter:entryFor table "set_iterator.__iter__" = some Builtin.«dict_keyiterator.__iter__» :=
 entryFor_alias (id' := "dict_keyiterator.__iter__") (by kernel_rfl) (by first | rfl | decide +kernel | (unfold String.splitOn; simp +decide [String.splitOnAux])) (by decide +kernel) (by kernel_rfl)
theorem entry_s_iter:entryFor table "set.__iter__" = some Builtin.«frozenset.__iter__» :=
 entryFor_alias (id' := "frozenset.__iter__") (by kernel_rfl) rfl (by decide +kernel) (by kernel_rfl)
theorem s_len:typeLookup (.type "set") "__len__" = pure (some (.builtin "set.__len__")):=by rw [typeLookup_type,builtinLookup_eq_fast]; kernel_rfl
section
variable {prog:Program} {w:World} {A:Around} {E:Value->Shared->Prop} {s:Shared}
theorem choose_ok {n:Nat} {Q:Nat->Shared->Prop} (hn:n ≠ 0) (h:∀ i d,i < n->Q i { s with drawn:=d }):wpAny (model prog w) A (choose .order n) Q E s:=fun Γ p hΓ=>by
 unfold choose
 rw [Sem.wp_choose]
 exact ⟨hn,h _ _ (Nat.mod_lt _ (Nat.pos_of_ne_zero hn))⟩
theorem erase_perm {α:Type}:∀ {l:List α} {i:Nat} {x:α},l[i]? = some x->(x :: l.eraseIdx i).Perm l
 | [],i,x,h=>by simp at h
 | y :: l,0,x,h=>by
  have:y = x:=by simpa using h
  subst this
  exact .refl _
 | y :: l,i + 1,x,h=>by
  have h':l[i]? = some x:=by simpa using h
  exact (List.Perm.swap y x _).trans ((erase_perm h').cons y)
theorem erase_len {α:Type} {l:List α} {i:Nat} {x:α} (h:l[i]? = some x):(l.eraseIdx i).length + 1 = l.length:=(erase_perm h).length_eq
theorem draw_ok {α:Type}:∀ (n:Nat) (l:List α) (s:Shared) (Q:List α->Shared->Prop),l.length = n->(∀ l' d,l'.Perm l->Q l' { s with drawn:=d })->wpAny (model prog w) A (drawOrder n l) Q E s
 | 0,l,s,Q,hl,h=>by
  unfold drawOrder
  obtain rfl:=List.length_eq_zero_iff.mp hl
  exact wpAny_pure (h [] s.drawn (.refl _))
 | n + 1,[],s,Q,hl,h=>by simp at hl
 | n + 1,x :: xs,s,Q,hl,h=>by
  unfold drawOrder
  refine wpAny_bind (choose_ok (by simp) fun i d hi=>?_)
  have e:(x :: xs)[i]? = some ((x :: xs)[i]):=List.getElem?_eq_getElem hi
  rw [e]
  dsimp only
  have hp:=erase_perm e
  refine wpAny_bind (draw_ok n _ _ _ (by have:=erase_len e; lia) fun l' d' hp'=>?_)
  exact wpAny_pure (h _ d' ((hp'.cons _).trans hp))
theorem pick_go {α:Type} (nx:Nat->Nat):∀ (f k:Nat) (left:List α) (out:Array α),left.length = f->(pickOrder.go nx f k left out).toList.Perm (out.toList ++ left)
 | 0,k,left,out,h=>by
  obtain rfl:=List.length_eq_zero_iff.mp h
  unfold pickOrder.go
  simp
 | f + 1,k,left,out,h=>by
  have hlt:nx k % left.length < left.length:=Nat.mod_lt _ (by lia)
  have e:left[nx k % left.length]? = some left[nx k % left.length]:=List.getElem?_eq_getElem hlt
  unfold pickOrder.go
  rw [e]
  dsimp only
  have hp:=erase_perm e
  refine (pick_go nx f (k + 1) _ _ (by have:=erase_len e; lia)).trans ?_
  rw [Array.toList_push,List.append_assoc]
  exact hp.append_left _
theorem pick_perm {α:Type} (nx:Nat->Nat) (xs:Array α):(pickOrder nx xs).toList.Perm xs.toList:=by
 unfold pickOrder
 have:=pick_go nx xs.size 0 xs.toList #[] (Array.length_toList ..)
 simpa using this
structure SAt (w:World) (h:Heap) (a:Addr) (o:Obj) (es:Array (Int × Value)) (ep:Nat) (t:SetTable):Prop where
 ho:h.get? a = some o
 ex:o.ExactSet
 hd:o.data = .set es ep t
 ft:t.fits es.size = true
 led:t.led = !(w.params.followText "set-order")
 pln:t.plain = true->es.size = 0
 few:es.size < 4096
noncomputable def sIt (first:Value) (i n ep:Nat) (a:Addr):Obj:={ cls:=.type "set_iterator",data:=.fields #[first,rawInt i,.ref a,rawInt n,rawInt ep] }
theorem byText_ok {Q:Bool->Shared->Prop} (h:Q (w.params.followText "set-order") s):wpAny (model prog w) A setsByText Q E s:=by
 unfold setsByText
 exact wpAny_bind (wpAny_askSetting (wpAny_pure h))
variable {a it:Addr} {o:Obj} {es:Array (Int × Value)} {ep:Nat} {t:SetTable}
theorem next_int {i sl:Nat} {r:Option (Value × Nat)} {Q:Option Value->Shared->Prop} (hh:A.handled = none) (S:SAt w s.heap a o es ep t) (hne:it ≠ a) (hi:s.heap.get? it = some (sIt (rawInt sl) i es.size ep a))
  (hin:∀ (Q':Option (Value × Nat)->Shared->Prop) (A':Around) (E':Value->Shared->Prop),Q' r s->wpAny (model prog w) A' (setNext a sl i ep) Q' E' s)
  (hQ1:∀ x nx h',r = some (x,nx)->h'.get? it = some (sIt (rawInt nx) (i + 1) es.size ep a)->Heap.SameBut it s.heap h'->Q (some x) { s with heap:=h' })
  (hQ0:r = none->∀ h',Heap.ExtBut it s.heap h'->Q none { s with heap:=h' }):wpAny (model prog w) A (pyNext (.ref it)) Q E s:=by
 have hT:s.TypeIs (.ref it) "set_iterator":=⟨_,hi,rfl⟩
 unfold pyNext
 refine wpAny_bind (wpAny_attempt (wpAny_callSpecial?_slot (name:=Str.ofString "__next__") hT slot_si_next (wpAny_call_entry slot_si_next hT entry_si_next ?_ (args_si_next _))))
 unfold Builtin.«set_iterator.__next__»
 refine wpAny_bind (wpAny_of_eq (a:=(Value.ref it,[])) rfl ?_)
 dsimp only
 refine wpAny_bind (wpAny_fieldsOf hi rfl ?_)
 dsimp only [rawInt]
 refine wpAny_bind (wpAny_setEntries_of S.ho S.hd S.ft ?_)
 rw [if_neg (by simp)]
 simp only [Int.toNat_natCast]
 refine wpAny_bind (hin _ _ _ ?_)
 cases r with
 | some p =>
  obtain ⟨x,nx⟩:=p
  dsimp only
  refine wpAny_bind (wpAny_setField hi rfl (by simp) ?_)
  have h1:=Heap.get?_update_self (Obj.mapFields (·.setIfInBounds 0 (rawInt (nx:Nat)))) hi rfl
  refine wpAny_bind (wpAny_setField h1 rfl (by simp) ?_)
  have h2:=Heap.get?_update_self (Obj.mapFields (·.setIfInBounds 1 (rawInt ((i:Int) + 1)))) h1 rfl
  refine wpAny_pure ⟨x,rfl,wpAny_pure (hQ1 x nx _ rfl ?_ ((Heap.SameBut.update ..).trans (Heap.SameBut.update ..)))⟩
  exact h2
 | none =>
  dsimp only
  refine wpAny_bind (wpAny_setField hi rfl (by simp) ?_)
  refine wpAny_bind ?_
  simp only [newExc,newTuple]
  refine wpAny_bind (wpAny_newObj_type ?_ (by size_fits))
  refine wpAny_bind (m:=firstArgMember _ _) (wpAny_of_eq (a:=Value.none) (by first | rfl | (simp only [firstArgMember]; rfl)) ?_)
  refine wpAny_newObj_type ?_ (by size_fits)
  simp only [raiseNew]
  refine wpAny_bind (wpAny_handled ?_)
  first | rw [show A.in1.handled = none from hh] | rw [hh]
  refine wpAny_bind (wpAny_pure (wpAny_throw ?_))
  refine wpAny_bind (wpAny_isInstance (T := "StopIteration") (b:=true) ⟨_,Heap.get?_push_size _ rfl,rfl⟩ isSubtype_stop ?_)
  exact wpAny_pure (hQ0 rfl _ ((Heap.ExtBut.push (Heap.ExtBut.push (fun b o hb e=>(Heap.get?_update_other _ _ (Ne.symm hb)).trans e) _)) _))
end
end ST
namespace ST
open PySem
noncomputable def tObj (ps:List Nat):Obj:={ cls:=.type "tuple",data:=.seq (ps.map fun (i:Nat)=>rawInt i).toArray }
section
variable {prog:Program} {w:World} {A:Around} {E:Value->Shared->Prop} {s:Shared} {a it T:Addr} {o:Obj} {es:Array (Int × Value)} {ep:Nat} {t:SetTable}
theorem next_tup {i:Nat} {ps:List Nat} {Q:Option Value->Shared->Prop} (hh:A.handled = none) (S:SAt w s.heap a o es ep t) (hi:s.heap.get? it = some (sIt (.ref T) i es.size ep a)) (hT:s.heap.get? T = some (tObj ps))
  (hQ1:∀ p x h',ps[i]? = some p->es[p]? = some x->h'.get? it = some (sIt (.ref T) (i + 1) es.size ep a)->Heap.SameBut it s.heap h'->Q (some x.2) { s with heap:=h' }) (hps:∀ p ∈ ps,p < es.size)
  (hQ0:ps.length<=i->∀ h',Heap.ExtBut it s.heap h'->Q none { s with heap:=h' }):wpAny (model prog w) A (pyNext (.ref it)) Q E s:=by
 have hTy:s.TypeIs (.ref it) "set_iterator":=⟨_,hi,rfl⟩
 unfold pyNext
 refine wpAny_bind (wpAny_attempt (wpAny_callSpecial?_slot (name:=Str.ofString "__next__") hTy slot_si_next (wpAny_call_entry slot_si_next hTy entry_si_next ?_ (args_si_next _))))
 unfold Builtin.«set_iterator.__next__»
 refine wpAny_bind (wpAny_of_eq (a:=(Value.ref it,[])) rfl ?_)
 refine wpAny_bind (wpAny_fieldsOf hi rfl ?_)
 dsimp only [rawInt]
 refine wpAny_bind (wpAny_setEntries_of S.ho S.hd S.ft ?_)
 rw [if_neg (by simp)]
 simp only [Int.toNat_natCast]
 refine wpAny_bind (wpAny_seqItems hT rfl ?_)
 dsimp only
 cases e:ps[i]? with
 | some p =>
  have e':(ps.map fun (i:Nat)=>Value.int (i:Int) 0).toArray[i]? = some (.int (p:Int) 0):=by
   rw [List.getElem?_toArray,List.getElem?_map,e]; rfl
  have e'':(ps.map fun (i:Nat)=>rawInt i).toArray[i]? = some (.int (p:Int) 0):=e'
  rw [e'']
  have hp:p < es.size:=hps p (List.mem_of_getElem? e)
  obtain ⟨x,hx⟩:∃ x,es[p]? = some x:=⟨es[p],Array.getElem?_eq_some_iff.mpr ⟨hp,rfl⟩⟩
  simp only [Int.toNat_natCast]
  unfold setNextDrawn
  refine wpAny_bind (wpAny_bind (wpAny_setState_of S.ho S.hd S.ft ?_))
  dsimp only
  rw [if_neg (by simp),hx]
  refine wpAny_pure ?_
  refine wpAny_bind (wpAny_setField hi rfl (by simp) ?_)
  have h2:=Heap.get?_update_self (Obj.mapFields (·.setIfInBounds 1 (rawInt ((i:Int) + 1)))) hi rfl
  exact wpAny_pure ⟨x.2,rfl,wpAny_pure (hQ1 p x _ e hx h2 (Heap.SameBut.update ..))⟩
 | none =>
  have e'':(ps.map fun (i:Nat)=>rawInt i).toArray[i]? = none:=by
   rw [List.getElem?_toArray,List.getElem?_map,e]; rfl
  rw [e'']
  refine wpAny_bind (wpAny_setField hi rfl (by simp) ?_)
  have h1:=Heap.get?_update_self (Obj.mapFields (·.setIfInBounds 0 (rawInt 0))) hi rfl
  refine wpAny_bind (wpAny_setField h1 rfl (by simp) ?_)
  refine wpAny_bind ?_
  simp only [newExc,newTuple]
  refine wpAny_bind (wpAny_newObj_type ?_ (by size_fits))
  refine wpAny_bind (m:=firstArgMember _ _) (wpAny_of_eq (a:=Value.none) (by first | rfl | (simp only [firstArgMember]; rfl)) ?_)
  refine wpAny_newObj_type ?_ (by size_fits)
  simp only [raiseNew]
  refine wpAny_bind (wpAny_handled ?_)
  rw [show A.in1.handled = none from hh]
  refine wpAny_bind (wpAny_pure (wpAny_throw ?_))
  refine wpAny_bind (wpAny_isInstance (T := "StopIteration") (b:=true) ⟨_,Heap.get?_push_size _ rfl,rfl⟩ isSubtype_stop ?_)
  refine wpAny_pure (hQ0 (List.getElem?_eq_none_iff.mp e) _ (Heap.ExtBut.push (Heap.ExtBut.push (fun b ob hb eb=>?_) _) _))
  exact (Heap.get?_update_other _ _ (Ne.symm hb)).trans ((Heap.get?_update_other _ _ (Ne.symm hb)).trans eb)
noncomputable def Mode (w:World) (a T:Addr) (es:Array (Int × Value)) (ep:Nat) (t:SetTable) (order:List Value) (i:Nat) (h:Heap) (first:Value):Prop :=
 (w.params.followText "set-order" = true/\first = rawInt (0:Nat)/\order = (pickOrder (w.params.setOrder a ep) es).toList.map (·.2)) \/
 (w.params.followText "set-order" = false/\∃ ps:List Nat,first = .ref T/\h.get? T = some (tObj ps)/\ps.Perm (List.range es.size)/\order = ps.filterMap fun p=>es[p]?.map (·.2)) \/
 (w.params.followText "set-order" = false/\es.size<=1/\order = es.toList.map (·.2)/\∃ sl:Nat,first = rawInt sl/\(i = 0->sl = 0)/\(i = 1->∃ j,t.place = #[j]/\sl = j + 1))
noncomputable def SSt (w:World) (a it T:Addr) (o:Obj) (es:Array (Int × Value)) (ep:Nat) (t:SetTable) (order:List Value) (i:Nat) (h:Heap):Prop :=
 SAt w h a o es ep t/\∃ first,h.get? it = some (sIt first i es.size ep a)/\Mode w a T es ep t order i h first
theorem SAt.at {h h':Heap} (S:SAt w h a o es ep t) (e:h'.get? a = some o):SAt w h' a o es ep t:=⟨e,S.ex,S.hd,S.ft,S.led,S.pln,S.few⟩
theorem below0 (j:Nat):SetTable.below #[j] 0 = 0:=by simp [SetTable.below,SetTable.below.go]
theorem below1 (j:Nat):SetTable.below #[j] (j + 1) = 1:=by simp [SetTable.below,SetTable.below.go]
theorem place_of (S:SAt w s.heap a o es ep t):t.place.size = es.size:=by
 have:=S.ft
 unfold SetTable.fits at this
 rw [Bool.and_eq_true] at this
 simpa using this.1
theorem set_walks (hh:A.handled = none) {order:List Value} (hia:it ≠ a) (hiT:it ≠ T):Walks prog w A it [it,a,T] [it] es.size (fun i v=>order[i]? = some v) (SSt w a it T o es ep t order) where
 sub:=fun b hb=>by simp at hb; simp [hb]
 frame:=fun i h h' ⟨S,first,hi,hm⟩ k=>by
  refine ⟨S.at (k a (by simp) _ S.ho),first,k it (by simp) _ hi,?_⟩
  rcases hm with z | ⟨z1,ps,z2,z3,z4,z5⟩ | z
  ·exact .inl z
  ·exact .inr (.inl ⟨z1,ps,z2,k T (by simp) _ z3,z4,z5⟩)
  ·exact .inr (.inr z)
 item:=fun i s Q E hlt ⟨S,first,hi,hm⟩ hQ=>by
  have keep:∀ h',Heap.SameBut it s.heap h'->∀ b ob,b ∉ [it]->s.heap.get? b = some ob->h'.get? b = some ob:=fun h' hs b ob hb e=>(hs.2 b (by simpa using hb)).trans e
  rcases hm with ⟨z1,rfl,z3⟩ | ⟨z1,ps,rfl,z3,z4,z5⟩ | ⟨z1,z2,z3,sl,rfl,z5,z6⟩
  ·have hpk:=pick_perm (w.params.setOrder a ep) es
   have hlen:(pickOrder (w.params.setOrder a ep) es).size = es.size:=by rw [<-Array.length_toList,hpk.length_eq,Array.length_toList]
   obtain ⟨x,hx⟩:∃ x,(pickOrder (w.params.setOrder a ep) es)[i]? = some x:=⟨_,Array.getElem?_eq_some_iff.mpr ⟨by rw [hlen]; exact hlt,rfl⟩⟩
   refine next_int (r:=some (x.2,0)) hh S hia hi (fun Q' A' E' q=>?_) (fun y nx h' e1 e2 hs=>?_) (fun e=>nomatch e)
   ·unfold setNext setWalk
    refine wpAny_bind (wpAny_setState_of S.ho S.hd S.ft ?_)
    refine wpAny_bind (byText_ok ?_)
    rw [z1,if_pos rfl,if_neg (by simp)]
    refine wpAny_bind (wpAny_bind (wpAny_setState_of S.ho S.hd S.ft ?_))
    refine wpAny_bind (byText_ok ?_)
    rw [z1,if_pos rfl]
    refine wpAny_bind (wpAny_askSetting (wpAny_pure (wpAny_pure ?_)))
    show Q' (((pickOrder (w.params.setOrder a ep) es)[i]?).map fun e=>(e.2,0)) s
    rw [hx]
    exact q
   ·cases e1
    have:=hQ x.2 h' s.toks (by rw [z3,List.getElem?_map,Array.getElem?_toList,hx]; rfl) ⟨S.at ((hs.2 a (Ne.symm hia)).trans S.ho),_,e2,.inl ⟨z1,rfl,z3⟩⟩ (keep h' hs)
    exact this
  ·refine next_tup hh S hi z3 (fun p x h' e1 e2 e3 hs=>?_) (fun p hp=>List.mem_range.mp (z4.mem_iff.mp hp)) (fun hle=>?_)
   ·have hall:∀ q ∈ ps,(es[q]?.map (·.2)).isSome = true:=fun q hq=>by
     have:q < es.size:=List.mem_range.mp (z4.mem_iff.mp hq)
     rw [Array.getElem?_eq_some_iff.mpr ⟨this,rfl⟩]; rfl
    refine hQ x.2 h' s.toks ?_ ⟨S.at ((hs.2 a (Ne.symm hia)).trans S.ho),_,e3,.inr (.inl ⟨z1,ps,rfl,(hs.2 T (Ne.symm hiT)).trans z3,z4,z5⟩)⟩ (keep h' hs)
    have gen:∀ (l:List Nat) (i p:Nat),(∀ q ∈ l,(es[q]?.map (·.2)).isSome = true)->l[i]? = some p->(l.filterMap fun p=>es[p]?.map (·.2))[i]? = es[p]?.map (·.2):=by
     intro l
     induction l with
     | nil=>intro i p _ e; simp at e
     | cons q r ih =>
      intro i p hl e
      refine o1_1 (Option.isSome_iff_exists.mp (hl q (List.mem_cons_self ..))) fun v hv=>?_
      rw [List.filterMap_cons,hv]
      dsimp only
      cases i with
      | zero =>
       have:q = p:=by simpa using e
       subst this
       simpa using hv.symm
      | succ i=>simpa using ih i p (fun q hq=>hl q (List.mem_cons_of_mem _ hq)) (by simpa using e)
    rw [z5,gen ps i p hall e1,e2]
    rfl
   ·have:=z4.length_eq
    rw [List.length_range] at this
    lia
  ·have h0:i = 0:=by lia
   have h1:es.size = 1:=by lia
   obtain ⟨j,hj⟩:∃ j,t.place = #[j]:=Array.size_eq_one_iff.mp ((place_of S).trans h1)
   obtain ⟨x,hx⟩:∃ x,es = #[x]:=Array.size_eq_one_iff.mp h1
   have hs0:=z5 h0
   subst hs0
   have hx0:es[0]? = some x:=by rw [hx]; rfl
   refine next_int (r:=some (x.2,j + 1)) hh S hia hi (fun Q' A' E' q=>?_) (fun y nx h' e1 e2 hs=>?_) (fun e=>nomatch e)
   ·unfold setNext
    refine wpAny_bind (wpAny_setState_of S.ho S.hd S.ft ?_)
    dsimp only
    refine wpAny_bind (byText_ok ?_)
    rw [z1,if_neg (by decide)]
    show wpAny _ _ (if (!t.plain && decide (es.size > 1)) = true then _ else _) _ _ _
    rw [if_neg (by rw [h1]; simp)]
    show wpAny _ _ (do (if (!t.led && !es.isEmpty) = true then unsupported "set:maker-not-led" else pure ()); _) _ _ _
    rw [S.led,z1,if_neg (by simp)]
    refine wpAny_bind (wpAny_pure ?_)
    rw [hj,below0,hx0]
    exact wpAny_pure q
   ·cases e1
    refine hQ x.2 h' s.toks (by rw [z3,h0,hx]; rfl) ⟨S.at ((hs.2 a (Ne.symm hia)).trans S.ho),_,e2,.inr (.inr ⟨z1,z2,z3,j + 1,rfl,fun e=>by lia,fun _=>⟨j,hj,rfl⟩⟩)⟩ (keep h' hs)
 done:=fun s Q E ⟨S,first,hi,hm⟩ hQ=>by
  have keep:∀ h',Heap.ExtBut it s.heap h'->∀ b ob,b ∉ [it]->s.heap.get? b = some ob->h'.get? b = some ob:=fun h' hs b ob hb e=>hs b ob (by simpa using hb) e
  rcases hm with ⟨z1,rfl,z3⟩ | ⟨z1,ps,rfl,z3,z4,z5⟩ | ⟨z1,z2,z3,sl,rfl,z5,z6⟩
  ·have hpk:=pick_perm (w.params.setOrder a ep) es
   have hlen:(pickOrder (w.params.setOrder a ep) es).size = es.size:=by rw [<-Array.length_toList,hpk.length_eq,Array.length_toList]
   refine next_int (r:=none) hh S hia hi (fun Q' A' E' q=>?_) (fun y nx h' e1=>nomatch e1) (fun _ h' hs=>hQ h' s.toks (keep h' hs))
   unfold setNext setWalk
   refine wpAny_bind (wpAny_setState_of S.ho S.hd S.ft ?_)
   refine wpAny_bind (byText_ok ?_)
   rw [z1,if_pos rfl,if_neg (by simp)]
   refine wpAny_bind (wpAny_bind (wpAny_setState_of S.ho S.hd S.ft ?_))
   refine wpAny_bind (byText_ok ?_)
   rw [z1,if_pos rfl]
   refine wpAny_bind (wpAny_askSetting (wpAny_pure (wpAny_pure ?_)))
   show Q' (((pickOrder (w.params.setOrder a ep) es)[es.size]?).map fun e=>(e.2,0)) s
   rw [Array.getElem?_eq_none (by rw [hlen]; exact Nat.le_refl _)]
   exact q
  ·have hl:=z4.length_eq
   rw [List.length_range] at hl
   refine next_tup hh S hi z3 (fun p x h' e1 e2 e3 hs=>?_) (fun p hp=>List.mem_range.mp (z4.mem_iff.mp hp)) (fun _ h' hs=>hQ h' s.toks (keep h' hs))
   have:=(List.getElem?_eq_some_iff.mp e1).1
   lia
  ·refine next_int (r:=none) hh S hia hi (fun Q' A' E' q=>?_) (fun y nx h' e1=>nomatch e1) (fun _ h' hs=>hQ h' s.toks (keep h' hs))
   unfold setNext
   refine wpAny_bind (wpAny_setState_of S.ho S.hd S.ft ?_)
   dsimp only
   refine wpAny_bind (byText_ok ?_)
   rw [z1,if_neg (by decide)]
   show wpAny _ _ (if (!t.plain && decide (es.size > 1)) = true then _ else _) _ _ _
   rw [if_neg (by simp; intro _; lia)]
   show wpAny _ _ (do (if (!t.led && !es.isEmpty) = true then unsupported "set:maker-not-led" else pure ()); _) _ _ _
   rw [S.led,z1,if_neg (by simp)]
   refine wpAny_bind (wpAny_pure ?_)
   have hnone:es[SetTable.below t.place sl]? = none:=by
    by_cases h0:es.size = 0
    ·exact Array.getElem?_eq_none (by rw [h0]; exact Nat.zero_le _)
    ·refine o1_2 (z6 (by lia)) fun j hj zq1=>?_
     subst zq1
     rw [hj,below1]
     exact Array.getElem?_eq_none (by lia)
   rw [hnone]
   exact wpAny_pure q
 self:=fun i s Q E ⟨S,first,hi,hm⟩ h=>by
  have hT:s.TypeIs (.ref it) "set_iterator":=⟨_,hi,rfl⟩
  refine wpAny_pyIter_slot hT slot_si_iter (wpAny_call_entry slot_si_iter hT entry_si_iter ?_ (args_si_iter _))
  show wpAny _ _ (ret (.ref it)) _ _ s
  exact wpAny_pure ⟨_,rfl, "set_iterator",_,hT,slot_si_next.lookup,h⟩
theorem iter_set {Q:Value->Shared->Prop} (S:SAt w s.heap a o es ep t)
  (h:∀ (it T:Addr) (order:List Value) (h':Heap) (d:Drawn),it ≠ a->it ≠ T->(T = a\/s.heap.objs.size<=T)->s.heap.objs.size<=it->(∀ b ob,s.heap.get? b = some ob->h'.get? b = some ob)->order.Perm (es.toList.map (·.2))->SSt w a it T o es ep t order 0 h'->(∀ b ∈ [it,a,T],b < h'.objs.size) ->
   (∀ A':Around,A'.handled = none->Walks prog w A' it [it,a,T] [it] es.size (fun i v=>order[i]? = some v) (SSt w a it T o es ep t order))->Q (.ref it) { s with heap:=h',drawn:=d }):wpAny (model prog w) A (pyIter (.ref a)) Q E s:=by
 have hT:s.TypeIs (.ref a) "set":=⟨_,S.ho,S.ex.1⟩
 have ha:=Heap.lt_size S.ho
 refine wpAny_pyIter_slot hT F.slot_set_iter (wpAny_call_entry F.slot_set_iter hT entry_s_iter ?_ (F.args_set_iter_1 _))
 unfold Builtin.«frozenset.__iter__» Builtin.Frozenset.slot0 Builtin.Frozenset.sizeOf
 refine wpAny_bind (wpAny_bind (wpAny_of_eq (a:=(Value.ref a,[])) rfl ?_))
 refine wpAny_of_eq (a:=a) rfl ?_
 refine wpAny_bind (wpAny_bind (wpAny_setEntries_of S.ho S.hd S.ft (wpAny_pure ?_)))
 have fin:∀ (first:Value) (T:Addr) (order:List Value) (h1:Heap) (d:Drawn),(∀ b ob,s.heap.get? b = some ob->h1.get? b = some ob)->s.heap.objs.size<=h1.objs.size->order.Perm (es.toList.map (·.2))->T < h1.objs.size->(T = a\/s.heap.objs.size<=T) ->
   (∀ h2:Heap,(∀ b ob,h1.get? b = some ob->h2.get? b = some ob)->Mode w a T es ep t order 0 h2 first) ->
   wpAny (model prog w) A.in1 (do let e <-setEpoch a; let x <-newFields "set_iterator" [first,rawInt 0,.ref a,rawInt (es.size:Nat),rawInt (e:Nat)]; ret x) (fun r s'=>∃ v,r = Fin.done (Flow.ret v)/\∃ T' r,s'.TypeIs v T'/\typeLookup (Value.type T') (Str.ofString "__next__") = pure (some r)/\Q v s') E { s with heap:=h1,drawn:=d }:=by
  intro first T order h1 d k hsz hp hTl hTa hm
  refine wpAny_bind (wpAny_setEpoch_of (s:={ s with heap:=h1,drawn:=d }) (k a o S.ho) S.hd S.ft ?_)
  refine wpAny_bind (wpAny_newObj_type ?_)
  have hg:(h1.push (sIt first 0 es.size ep a)).get? h1.objs.size = some (sIt first 0 es.size ep a):=Heap.get?_push_size _ rfl
  have k2:∀ b ob,h1.get? b = some ob->(h1.push (sIt first 0 es.size ep a)).get? b = some ob:=fun b ob e=>Heap.get?_push_of_some _ e
  have hia:h1.objs.size ≠ a:=fun e=>absurd (Nat.lt_of_lt_of_le ha hsz) (by rw [<-e]; exact Nat.lt_irrefl _)
  have hiT:h1.objs.size ≠ T:=fun e=>absurd hTl (by rw [<-e]; exact Nat.lt_irrefl _)
  refine wpAny_pure ⟨.ref h1.objs.size,rfl, "set_iterator",_,⟨_,hg,rfl⟩,slot_si_next.lookup,?_⟩
  refine h h1.objs.size T order (h1.push (sIt first 0 es.size ep a)) d hia hiT hTa hsz (fun b ob e=>k2 b ob (k b ob e)) hp ⟨S.at (k2 a o (k a o S.ho)),first,hg,hm _ k2⟩ (fun b hb=>?_) fun A' hh=>set_walks hh hia hiT
  rw [Heap.size_push]
  simp only [List.mem_cons,List.not_mem_nil,or_false] at hb
  rcases hb with rfl | rfl | rfl
  ·exact Nat.lt_succ_self _
  ·exact Nat.lt_succ_of_lt (Nat.lt_of_lt_of_le ha hsz)
  ·exact Nat.lt_succ_of_lt hTl
 unfold setDrawn
 refine wpAny_bind (wpAny_bind (wpAny_setState_of S.ho S.hd S.ft ?_))
 refine wpAny_bind (byText_ok (wpAny_pure ?_))
 cases hb:w.params.followText "set-order" with
 | true =>
  show wpAny _ _ (if (!true && (!t.plain && decide (es.size > 1))) = true then _ else _) _ _ _
  rw [Bool.not_true,Bool.false_and,if_neg (by decide)]
  refine wpAny_bind (wpAny_pure ?_)
  exact fin _ a _ s.heap s.drawn (fun _ _ e=>e) (Nat.le_refl _) ((pick_perm _ es).map _) ha (.inl rfl) fun h2 _=>.inl ⟨hb,rfl,rfl⟩
 | false =>
  show wpAny _ _ (if (!false && (!t.plain && decide (es.size > 1))) = true then _ else _) _ _ _
  by_cases hdr:(!t.plain && decide (es.size > 1)) = true
  ·rw [Bool.not_false,Bool.true_and,if_pos hdr]
   refine wpAny_bind (draw_ok es.size (List.range es.size) s _ (List.length_range ..) fun ps d hp=>wpAny_bind ?_)
   unfold newTuple
   refine wpAny_newObj_type ?_ ?_
   ·have hg:(s.heap.push (tObj ps)).get? s.heap.objs.size = some (tObj ps):=Heap.get?_push_size _ rfl
    refine fin _ s.heap.objs.size (ps.filterMap fun p=>es[p]?.map (·.2)) (s.heap.push (tObj ps)) d (fun b ob e=>Heap.get?_push_of_some _ e) (by rw [Heap.size_push]; exact Nat.le_succ _) ?_ (by rw [Heap.size_push]; exact Nat.lt_succ_self _) (.inr (Nat.le_refl _)) fun h2 k2=>.inr (.inl ⟨hb,ps,rfl,k2 _ _ hg,hp,rfl⟩)
    refine (hp.filterMap _).trans (List.Perm.of_eq ?_)
    have:=filterMap_getElem?_range es
    rw [<-this,List.map_filterMap]
   ·have h1:=hp.length_eq
    have h2:=S.few
    rw [List.length_range] at h1
    show (List.map _ ps).toArray.size<=sizeLine
    rw [List.size_toArray,List.length_map,sizeLine_eq]
    lia
  ·rw [Bool.not_false,Bool.true_and,if_neg hdr]
   refine wpAny_bind (wpAny_pure ?_)
   have hle:es.size<=1:=by
    by_cases hp:t.plain = true
    ·have:=S.pln hp; lia
    ·have hp':t.plain = false:=by simpa using hp
     rw [hp'] at hdr
     simp at hdr
     lia
   exact fin _ a _ s.heap s.drawn (fun _ _ e=>e) (Nat.le_refl _) (.refl _) ha (.inl rfl) fun h2 _=>.inr (.inr ⟨hb,hle,rfl,0,rfl,fun _=>rfl,fun e=>absurd e (by decide)⟩)
end
end ST
namespace ST
open PySem
section
variable {prog:Program} {w:World} {A:Around} {E:Value->Shared->Prop} {s:Shared} {a:Addr} {o:Obj} {es:Array (Int × Value)} {ep:Nat} {t:SetTable}
theorem items_eq {order:List Value} {acc:Array Value} (h:ItemsOf (fun i v=>order[i]? = some v) acc order.length):acc.toList = order:=by
 refine List.ext_getElem? fun i=>?_
 rw [Array.getElem?_toList]
 by_cases hi:i < acc.size
 ·have e:acc[i]? = some acc[i]:=Array.getElem?_eq_some_iff.mpr ⟨hi,rfl⟩
  rw [e,h.2 i _ e]
 ·rw [Array.getElem?_eq_none (by lia),List.getElem?_eq_none (by have:=h.1; lia)]
theorem collect_set {Q:List Value->Shared->Prop} (hh:A.handled = none) (S:SAt w s.heap a o es ep t)
  (hQ:∀ s' acc,(∀ b ob,s.heap.get? b = some ob->s'.heap.get? b = some ob)->s'.gens = s.gens->s'.os = s.os->s.heap.objs.size < s'.heap.objs.size->acc.Perm (es.toList.map (·.2))->Q acc s'):wpAny (model prog w) A (collect (.ref a)) Q E s:=by
 have ha:=Heap.lt_size S.ho
 unfold collect
 refine wpAny_bind (wpAny_runValue (codeAny_builtin F.entry_proto_collect ?_))
 rw [Around.under_plainId F.plain_proto_collect _]
 show wpAny _ A.in1 (newList [] >>= fun l=>again (.builtin "list.__iadd__" ⟨[l,.ref a],[]⟩)) _ _ s
 refine wpAny_bind (wpAny_newObj_type ?_)
 refine wpAny_pure ⟨plainId_quiet F.plain_list_iadd _,codeAny_builtin F.entry_list_iadd ?_⟩
 rw [Around.under_plainId F.plain_list_iadd _]
 show wpAny _ A.in1 (Builtin.List.listExtendWith (.ref s.heap.objs.size) (.ref a) (.ref s.heap.objs.size)) _ _ _
 unfold Builtin.List.listExtendWith
 have hne:s.heap.objs.size ≠ a:=fun e=>absurd ha (by rw [<-e]; exact Nat.lt_irrefl _)
 generalize hH:s.heap.push { cls:=.type "list",data:=.seq ([]:List Value).toArray } = H
 have kH:∀ b ob,s.heap.get? b = some ob->H.get? b = some ob:=fun b ob e=>by rw [<-hH]; exact Heap.get?_push_of_some _ e
 have hHs:H.objs.size = s.heap.objs.size + 1:=by rw [<-hH,Heap.size_push]
 have hS:H.get? s.heap.objs.size = some { cls:=.type "list",data:=.seq ([]:List Value).toArray }:=by rw [<-hH]; exact Heap.get?_push_size _ rfl
 have hT:Shared.TypeIs { s with heap:=H } (.ref a) "set":=⟨o,kH a o S.ho,S.ex.1⟩
 refine wpAny_bind (wpAny_typeOf hT ?_)
 have h1:Builtin.List.listSameRef (.ref s.heap.objs.size) (.ref a) = false:=by simp [Builtin.List.listSameRef,hne]
 have h2:(Value.type "set" == Value.type "list") = false:=by decide
 have h3:(Value.type "set" == Value.type "tuple") = false:=by decide
 simp only [h1,h2,h3,Bool.or_false,Bool.false_eq_true,if_false]
 refine wpAny_bind (iter_set (s:={ s with heap:=H }) (S.at (kH a o S.ho)) fun it T order h' d hia hiT hTa hsz k hp st hlt W=>?_)
 have hT':Shared.TypeIs { s with heap:=h',drawn:=d } (.ref a) "set":=⟨o,k a o (kH a o S.ho),S.ex.1⟩
 refine wpAny_bind (wpAny_holding ?_)
 unfold Builtin.List.listLengthHint
 refine wpAny_bind (wpAny_specialOf hT' s_len ?_)
 wp_delta
 refine wpAny_bind (wpAny_isInstance hT' (b:=true) (by rw [isSubtype_type]; kernel_rfl) ?_)
 show wpAny _ A.in1 (typeOf (Value.ref a) >>= _) _ _ _
 refine wpAny_bind (wpAny_typeOf hT' ?_)
 refine wpAny_pure ?_
 rw [if_pos (by decide)]
 refine wpAny_bind (wpAny_rule ?_)
 have hS1:h'.get? s.heap.objs.size = some { cls:=.type "list",data:=.seq ([]:List Value).toArray }:=k _ _ hS
 refine wpAny_bind ?_
 show wpAny _ A.in1 (updateSeq s.heap.objs.size (·.push .none) >>= fun _=>updateSeq s.heap.objs.size (·.pop)) _ _ _
 refine wpAny_bind (wpAny_updateSeq hS1 rfl ?_)
 have hS2:=Heap.get?_update_self (Obj.mapSeq (·.push Value.none)) hS1 rfl
 refine wpAny_updateSeq hS2 rfl ?_
 have hS3:=Heap.get?_update_self (Obj.mapSeq (·.pop)) hS2 rfl
 have oth:∀ b ob,b ≠ s.heap.objs.size->h'.get? b = some ob->((h'.update s.heap.objs.size (Obj.mapSeq (·.push Value.none))).update s.heap.objs.size (Obj.mapSeq (·.pop))).get? b = some ob :=
  fun b ob hb e=>(Heap.get?_update_other _ _ (Ne.symm hb)).trans ((Heap.get?_update_other _ _ (Ne.symm hb)).trans e)
 have hSf:s.heap.objs.size ∉ [it,a,T]:=by
  have e1:s.heap.objs.size ≠ it:=fun e=>absurd hsz (by
   show ¬ H.objs.size<=it
   rw [hHs,<-e]; exact Nat.not_succ_le_self _)
  have e2:s.heap.objs.size ≠ T:=fun e=>by
   rcases hTa with z | z
   ·exact hne (e.trans z)
   ·exact absurd z (by
     show ¬ H.objs.size<=T
     rw [hHs,<-e]; exact Nat.not_succ_le_self _)
  simp only [List.mem_cons,List.not_mem_nil,or_false,not_or]
  exact ⟨e1,hne,e2⟩
 have hle:es.size = order.length:=by
  have:=hp.length_eq
  rw [List.length_map,Array.length_toList] at this
  exact this.symm
 have hfew:=S.few
 refine wpAny_pure ⟨plainId_quiet F.plain_extend_loop _,codeAny_extend_loopS (W A.in1 hh).toS (by rw [sizeLine_eq]; lia) _ hSf _ es.size 0 _ _ _ rfl (Nat.zero_le _)
  ((W A.in1 hh).frame 0 h' _ st fun b hb ob e=>oth b ob (fun z=>hSf (z ▸ hb)) e) hS3 (ItemsOf.nil _) fun s' acc' c' hm hS' hacc=>?_⟩
 show wpAny _ A (load s.heap.objs.size >>= _) _ _ s'
 refine wpAny_bind (wpAny_load hS' ?_)
 rw [hle] at hacc
 refine wpAny_pure (hQ s' acc'.toList (fun b ob e=>hm.heap b ob (fun hb=>?_) (oth b ob (fun z=>?_) (k b ob (kH b ob e)))) hm.gens hm.os (Heap.lt_size hS') (by rw [items_eq hacc]; exact hp))
 ·have hbl:=Heap.lt_size e
  rcases List.mem_cons.mp hb with z | z
  ·exact absurd hbl (by rw [z]; exact Nat.lt_irrefl _)
  ·rw [List.mem_singleton.mp z] at hbl
   have:H.objs.size<=it:=hsz
   rw [hHs] at this
   exact absurd (Nat.lt_of_lt_of_le hbl (Nat.le_of_succ_le this)) (Nat.lt_irrefl _)
 ·exact absurd (Heap.lt_size e) (by rw [z]; exact Nat.lt_irrefl _)
end
end ST
namespace ST
open PySem L2
theorem or_led (t:SetTable) (n:Nat):(t.orStandIn n).led = t.led:=by
 unfold SetTable.orStandIn
 split <;> rfl
theorem lay_led (t:SetTable) (es:Array (Int × Value)) (h:Int) (x:Value):(layNew t es h x).2.1.led = t.led:=by
 unfold layNew
 split
 ·rename_i sl wd e
  show ((t.put sl).1.orStandIn _).led = _
  rw [or_led]
  rfl
 ·rfl
theorem relaid_led {t t':SetTable} {hs:Array Int} {n:Nat} {ord:Array Nat} (h:t.relaid hs n = some (t',ord)):t'.led = t.led/\t'.plain = t.plain:=by
 unfold SetTable.relaid SetTable.laid at h
 cases e:SetTable.layClean (SetTable.sizeAbove n - 1) hs with
 | none=>rw [e] at h; cases h
 | some ow =>
  rw [e] at h
  cases h
  exact ⟨rfl,rfl⟩
theorem relay_led (t:SetTable) (es:Array (Int × Value)) (n:Nat) (hp:t.plain = false):(relayAll t es n).2.1.led = t.led/\(relayAll t es n).2.1.plain = false:=by
 unfold relayAll
 split
 ·rename_i t' ord e
  refine o0_2 (relaid_led e) fun e1 e2=>?_
  dsimp only
  split
  ·exact ⟨e1,e2.trans hp⟩
  ·exact ⟨rfl,rfl⟩
 ·exact ⟨rfl,rfl⟩
noncomputable def keyS:Value->Str
 | .str x _=>x
 | _=>Str.empty
section
variable {prog:Program} {w:World} {A:Around} {E:Value->Shared->Prop} {s:Shared} {a:Addr}
structure TxtEs (w:World) (es:Array (Int × Value)) (ss:List Str):Prop where
 el:∀ e ∈ es.toList,∃ x tk,e = (hashStr w x,Value.str x tk)
 pm:(es.toList.map fun e=>keyS e.2).Perm ss
 nd:ss.Nodup
noncomputable def WS (w:World) (h:Heap) (a:Addr) (ss:List Str):Prop:=∃ o es ep t,SAt w h a o es ep t/\TxtEs w es ss
theorem TxtEs.elems {es:Array (Int × Value)} {ss:List Str} (h:TxtEs w es ss):ElemsOf (mixKind prog w) es.toList:=fun e he=>by
 refine o2_1 (h.el e he) fun x tk zq1=>?_
 subst zq1
 exact ⟨⟨.inr x,keyIs_str x tk,rfl⟩,rfl⟩
theorem TxtEs.mem {es:Array (Int × Value)} {ss:List Str} (h:TxtEs w es ss) (x:Str):x ∈ ss ↔ ∃ e ∈ es.toList,(mixKind prog w).is (.inr x) e.2 = true:=by
 rw [<-h.pm.mem_iff]
 constructor
 ·intro hm
  refine o1_2 (List.mem_map.mp hm) fun e he zq2=>?_
  subst zq2
  refine o2_1 (h.el e he) fun y tk zq3=>?_
  subst zq3
  exact ⟨_,he,keyIs_str y tk⟩
 ·intro zq4
  refine o1_2 zq4 fun e he hk=>?_
  refine o2_1 (h.el e he) fun y tk zq5=>?_
  subst zq5
  have:y = x:=by
   rcases keyIs_shape (show keyIs (.inr x) (.str y tk) = true from hk) with ⟨i,t,e1,e2⟩ | ⟨z,t,e1,e2⟩
   ·cases e2
   ·cases e1; cases e2; rfl
  subst this
  exact List.mem_map.mpr ⟨_,he,rfl⟩
theorem TxtEs.len {es:Array (Int × Value)} {ss:List Str} (h:TxtEs w es ss):es.size = ss.length:=by
 have:=h.pm.length_eq
 rw [List.length_map,Array.length_toList] at this; exact this
theorem add_txt {ss:List Str} {x:Str} {tk:Tok} {Q:Bool->Shared->Prop} (S:WS w s.heap a ss) (hl:ss.length + 1 < 4096)
  (h:∀ h' b,Heap.SameBut a s.heap h'->WS w h' a (if x ∈ ss then ss else ss ++ [x])->Q b { s with heap:=h' }) :
  wpAny (model prog w) A (setAddHashed a (.str x tk) (hashStr w x)) Q E s:=by
 refine o4_2 (id S) fun o es ep t S T=>?_
 have hkey:(mixKind prog w).is (.inr x) (.str x tk) = true:=keyIs_str x tk
 have hsz:=T.len
 unfold setAddHashed setAddHashedIn
 refine wpAny_holding (wpAny_bind (wpAny_setState_of S.ho S.hd S.ft ?_))
 dsimp only
 rw [byScan_of (knd:=mixKind prog w) rfl S.few T.elems,if_pos rfl]
 unfold setAddByScan
 refine wpAny_bind (wpAny_bind (wpAny_rule ?_))
 refine wpAny_bind (wpAny_setScan_of hkey S.ho S.hd S.ft T.elems ?_)
 cases hr:List.findIdx? (fun e=>(mixKind prog w).is (.inr x) e.2) es.toList with
 | some j =>
  dsimp only
  obtain ⟨hj,hpj,_⟩:=List.findIdx?_eq_some_iff_getElem.mp hr
  have hx:x ∈ ss:=(T.mem (prog:=prog) x).mpr ⟨es.toList[j],List.getElem_mem hj,hpj⟩
  refine wpAny_pure (wpAny_pure ?_)
  have:=h s.heap false (Heap.SameBut.refl a s.heap) (by rw [if_pos hx]; exact ⟨o,es,ep,t,S,T⟩)
  exact this
 | none =>
  dsimp only
  have hx:¬ x ∈ ss:=fun hx=>by
   obtain ⟨e,he,hp⟩:=(T.mem (prog:=prog) x).mp hx
   have:=List.findIdx?_eq_none_iff.mp hr e he
   rw [hp] at this; exact Bool.noConfusion this
  have hgw:∀ (b:Bool) {s1:Shared} {Q':Unit->Shared->Prop},Q' () s1->wpAny (model prog w) A (match b with | true=>rule "set.scan.the-table-gave-way" | false=>pure ()) Q' E s1 :=
   fun b s1 Q' hq=>by cases b <;> first | exact wpAny_pure hq | exact wpAny_rule hq
  have hperm:=layNew_perm t es (hashStr w x) (.str x tk)
  have hfits:=layNew_fits t es (hashStr w x) (.str x tk)
  have hled:=lay_led t es (hashStr w x) (.str x tk)
  show wpAny _ _ (match layNew t es (hashStr w x) (.str x tk) with | (es,t,wasDummy,gave)=>_) _ _ _
  generalize layNew t es (hashStr w x) (.str x tk) = L at hperm hfits hled ⊢
  obtain ⟨es1,t1,wasDummy,gave⟩:=L
  dsimp only at hperm hfits hled ⊢
  rw [Array.toList_push] at hperm
  have hT1:∀ es2:Array (Int × Value),es2.toList.Perm es1.toList->TxtEs w es2 (ss ++ [x]):=fun es2 hp2=>by
   refine ⟨fun e he=>?_,?_,?_⟩
   ·rcases List.mem_append.mp (hperm.mem_iff.mp (hp2.mem_iff.mp he)) with z | z
    ·exact T.el e z
    ·exact ⟨x,tk,List.mem_singleton.mp z⟩
   ·refine ((hp2.trans hperm).map _).trans ?_
    rw [List.map_append]
    exact T.pm.append (.refl _)
   ·rw [List.nodup_append]
    refine ⟨T.nd,by simp,fun y hy z hz=>?_⟩
    rw [List.mem_singleton.mp hz]
    rintro rfl
    exact hx hy
  have hsz1:es1.size = ss.length + 1:=by
   have:=(hT1 es1 (.refl _)).len
   rw [List.length_append] at this; exact this
  refine wpAny_bind (hgw _ ?_)
  have key:∀ t2:SetTable,t2.led = t.led->t2.plain = false->t2.fits es1.size = true->wpAny (model prog w) A (do
    storeSet a es1 t2
    if (!wasDummy && t2.tooFull) = true then do
      (match (relayAll t2 es1 (SetTable.grown es1.size)).2.2 with | true=>rule "set.scan.the-table-gave-way" | false=>pure ())
      storeSet a (relayAll t2 es1 (SetTable.grown es1.size)).1 (relayAll t2 es1 (SetTable.grown es1.size)).2.1
      pure (some true)
     else pure (some true)) (fun r s'=>wpAny (model prog w) A (match r with | some added=>pure added | none=>setAddHashedIn a (.str x tk) (hashStr w x) 99999) Q E s') E s:=by
   intro t2 l2 p2 f2
   refine wpAny_bind (wpAny_storeSet_of S.ho S.hd ?_ (by rw [hsz1,sizeLine_eq]; lia))
   have ho1:=set_get S.ho S.hd es1 t2
   have sb1:=Heap.SameBut.update s.heap a (Obj.putSet es1 t2)
   split
   ·have hp:=relayAll_perm t2 es1 (SetTable.grown es1.size)
    have hf:=relayAll_fits t2 es1 (SetTable.grown es1.size)
    refine o0_2 (relay_led t2 es1 (SetTable.grown es1.size) p2) fun hl3 hp3=>?_
    have hz2:(relayAll t2 es1 (SetTable.grown es1.size)).1.size = es1.size:=by rw [<-Array.length_toList,hp.length_eq,Array.length_toList]
    refine wpAny_bind (hgw _ ?_)
    refine wpAny_bind (wpAny_storeSet_of ho1 rfl ?_ (by rw [hz2,hsz1,sizeLine_eq]; lia))
    refine wpAny_pure (wpAny_pure (h _ true (sb1.trans (Heap.SameBut.update _ a _)) ?_))
    rw [if_neg hx]
    exact ⟨_,_,_,_,⟨set_get ho1 rfl _ _,S.ex,rfl,hf,hl3.trans (l2.trans S.led),(fun z=>by rw [hp3] at z; cases z),by rw [hz2,hsz1]; lia⟩,hT1 _ hp⟩
   ·refine wpAny_pure (wpAny_pure (h _ true sb1 ?_))
    rw [if_neg hx]
    exact ⟨_,es1,_,t2,⟨ho1,S.ex,rfl,f2,l2.trans S.led,(fun z=>by rw [p2] at z; cases z),by rw [hsz1]; lia⟩,hT1 _ (.refl _)⟩
  cases hpl:t1.plain with
  | true =>
   rw [if_pos rfl,hashByValue_scannable 8 (x:=Value.str x tk) rfl]
   refine wpAny_bind (wpAny_pure ?_)
   exact key { t1 with plain:=false } hled rfl (SetTable.fits_plain_off hfits)
  | false =>
   rw [if_neg (by decide)]
   refine wpAny_bind (wpAny_pure ?_)
   exact key t1 hled hpl hfits
end
end ST
namespace L2
open PySem PySem.Spec PyProof.Rows
noncomputable def SetW (w:World) (a:Addr) (ss:List Str):HO:=.ext fun h=>ST.WS w h a ss
section
variable {X:Cx} {pins:List (Addr × Obj)} {σ:St} {H:Hp} {s:Shared} {a:Addr} {ss:List Str}
theorem setwOk {P:Program} {w:World} {H:Hp} {h:Heap} (z:ST.WS w h a ss):ObjOk P w H h a (SetW w a ss) :=
 ⟨z,let ⟨o,_,_,_,S,_⟩:=z; ⟨o,S.ho⟩,fun h1 h2 ⟨o,es,ep,t,S,r⟩ k=>⟨o,es,ep,t,S.at (k o S.ho),r⟩⟩
theorem Inv.setw (I:Inv X pins σ H s) (e:H a = some (SetW X.w a ss)):ST.WS X.w s.heap a ss:=by
 refine o0_2 ((show ObjOk X.prog X.w H s.heap a (SetW X.w a ss) from I.hok a _ e)) fun z _=>?_
 exact z
noncomputable def addS (l:List Str) (x:Str):List Str:=if x ∈ l then l else l ++ [x]
noncomputable def rAddW (w:World):V->List V->Hp->VK->Prop:=fun x vs H Q=>∃ a l k,x = .ref a/\vs = [.str k]/\H a = some (SetW w a l)/\l.length + 1 < 4096/\Q .non (upd H a (SetW w a (addS l k)))
theorem WS.typeIs {ss:List Str} (z:ST.WS X.w s.heap a ss):s.TypeIs (.ref a) "set":=let ⟨o,_,_,_,S,_⟩:=z; ⟨o,S.ho,S.ex.1⟩
theorem mt_addW:MtM X "set.add" (rAddW X.w):=by
 intro pins s σ H x vs v us Q I rx rv h
 refine o3_5 h fun a l k zq1 zq2 hH hz q=>?_
 try clear h
 subst zq1
 subst zq2
 cases rx
 refine o1_2 rv.one fun u zq3 zq4=>?_
 subst zq3
 refine o1_1 zq4 fun tk zq5=>?_
 subst zq5
 have z:=I.setw hH
 refine wpAny_call_entry F.slot_set_add (WS.typeIs z) F.entry_set_add ?_ (F.args_set_add_2 _ _)
 unfold Builtin.«set.add» Builtin.Frozenset.oneOther
 simp only [List.isEmpty_nil,bind_assoc]
 unfold Builtin.Frozenset.addrOf setAdd
 refine wpAny_bind (wpAny_pure ?_)
 try dsimp only
 refine wpAny_bind (wpAny_pure ?_)
 try dsimp only
 refine wpAny_bind ?_
 refine wpAny_holding ?_
 refine wpAny_bind (wpAny_pyHash_str ?_)
 refine ST.add_txt (s:={ s with toks:=s.toks + 1 }) z hz fun h' b hsb z'=>?_
 show wpAny _ _ (ret Value.none) _ _ _
 refine wpAny_pure ⟨_,rfl,.non,_,I.write (x:=a) (e:=a) (t':=s.toks + 1) (by rw [hH]; exact True.intro) (.inl rfl) (fun b q hb e=>(hsb.2 b hb).trans e) (let ⟨o,_,_,_,S,_⟩:=z'; ⟨o,S.ho⟩) (setwOk z'),rfl,q⟩
theorem newSet_w {Q:Value->Shared->Prop} {A:Around} {E:Value->Shared->Prop} {prog:Program} {w:World}
  (h:ST.WS w (s.heap.push { cls:=.type "set",dict:=none,data:=.set #[] 0 (.fresh 0 0 (!(w.params.followText "set-order"))) }) s.heap.objs.size [] ->
   Q (.ref s.heap.objs.size) { s with heap:=s.heap.push { cls:=.type "set",dict:=none,data:=.set #[] 0 (.fresh 0 0 (!(w.params.followText "set-order"))) } }):wpAny (model prog w) A (newSet (.type "set")) Q E s:=by
 unfold newSet setsByText
 refine wpAny_bind (wpAny_bind (wpAny_askSetting (wpAny_pure ?_)))
 dsimp only
 simp only [newObj]
 refine wpAny_bind (wpAny_alloc (wpAny_pure (h ⟨_,#[],0,_,⟨Heap.get?_push_size _ rfl,⟨rfl,rfl,rfl⟩,rfl,by rfl,rfl,fun _=>rfl,by decide⟩,⟨fun e he=>by simp at he,by simp,List.nodup_nil⟩⟩)))
end
section
variable {X:Cx} {tg iter elt tg2 iter2:Expr} {g g2:TG} {tc tc2:TT} {te:TE} {ifs ifs2:List Expr} {scope:Scope} {cl:List (Str × Addr)} {N':List Str} {cap:List (Option Nat)} {pos:Pos} {wi wi2:TI}
noncomputable def emSetW (w:World) (D:Addr) (te:TE):TEm:=fun σ H Q=>te σ H fun y H1=>∃ l k,y = .str k/\H1 D = some (SetW w D l)/\l.length + 1 < 4096/\Q σ (upd H1 D (SetW w D (addS l k)))
theorem pem_setw {D:Addr} (hxe:X.xe = fun _ _=>False) (he:PE X elt te):PEm X (emS elt (.ref D) X.env) (emSetW X.w D te):=by
 intro pins s σ H Q k F E I h hk
 unfold emS
 refine wpAny_bind (wpAny_bind (wpAny_mono (no_exc hxe (he pins s σ H _ I h)) (fun u s1 zz=>?_) fun _ _ z=>z))
 obtain ⟨y,H1,I1,r1,l,kk,e1,e2,z1,q1⟩:=zz
 subst e1
 refine wpAny_bind (wpAny_standAt (wpAny_bind (wpAny_mono (no_exc hxe (mt_addW pins s1 σ H1 (.ref D) [.str kk] (.ref D) [u] (fun v H2=>v = .non/\Q σ H2) I1 rfl (.cons r1 .nil) ⟨D,l,kk,rfl,rfl,e2,z1,rfl,q1⟩)) (fun v s2 zz=>?_) fun _ _ z=>z)))
 refine o2_4 zz fun y2 H2 I2 r2 _ q2=>?_
 try clear zz
 exact wpAny_pure (hk s2 σ H2 I2 q2)
theorem pem_inW {D:Addr} (hc:X.calm = true) (hxe:X.xe = fun _ _=>False) (hi:PI X tg2 iter2 wi2) (hg:PG X tg2 g2) (ht:PTs X ifs2 tc2) (he:PE X elt te) (hs:∀ x,foldedSetIterable iter2 X.env x = pure x) :
  PEm X (emN (.SetComp elt [⟨tg,iter,ifs,0⟩,⟨tg2,iter2,ifs2,0⟩] scope pos) iter2 1 (.ref D) X.env) (emIn wi2 fun J σ H Q=>Loop g2 tc2 (emSetW X.w D te) J σ H Q):=by
 intro pins s σ H Q k F E I h hk
 unfold emN
 have h0:=hi pins s σ H _ I h
 rw [hxe] at h0
 refine wpAny_bind (wpAny_mono h0 (fun v s1 h1=>?_) fun _ _ z=>z.elim)
 refine wpAny_bind (wpAny_standAt (wpAny_bind (wpAny_of_eq (hs v) (wpAny_bind (wpAny_holding (wpAny_mono h1 (fun itv s2 h2=>?_) fun _ _ z=>z.elim))))))
 refine o5_6 h2 fun it fp tn J H2 eit I2 T st2 f2 R2=>?_
 try clear h2
 subst eit
 refine wpAny_bind (wpAny_runOwn ?_)
 refine comp_start (X:=X) (e:=.SetComp elt [⟨tg,iter,ifs,0⟩,⟨tg2,iter2,ifs2,0⟩] scope pos) (d:=1) (tg:=tg2) (iter:=iter2) (ifs:=ifs2) rfl rfl (gs:=[⟨tg,iter,ifs,0⟩,⟨tg2,iter2,ifs2,0⟩]) rfl rfl T st2 ?_
 exact comp_loop (X:=X) rfl rfl hc hxe (turnE_set1 elt tg iter tg2 iter2 ifs ifs2 scope pos _ _ _) hg ht (pem_setw hxe he) T I2 st2 f2 R2 fun s' σ' H' I' q'=>hk s' σ' H' I' q'
theorem pe_sc2W (S:CScope X scope cl N' cap) (hc:X.calm = true) (hi:PI X tg iter wi)
  (hb:∀ (pins:List (Addr × Obj)) (ex:List Addr) (s3:Shared) (H3:Hp),PG (cxC X scope cl N' pins ex s3 H3) tg g/\PTs (cxC X scope cl N' pins ex s3 H3) ifs tc/\PI (cxC X scope cl N' pins ex s3 H3) tg2 iter2 wi2 /\
   PG (cxC X scope cl N' pins ex s3 H3) tg2 g2/\PTs (cxC X scope cl N' pins ex s3 H3) ifs2 tc2/\PE (cxC X scope cl N' pins ex s3 H3) elt te)
  (hs:∀ x,foldedSetIterable iter X.env x = pure x:=by intro _; rfl) (hs2:∀ env x,foldedSetIterable iter2 env x = pure x:=by intro _ _; rfl) :
  PE X (.SetComp elt [⟨tg,iter,ifs,0⟩,⟨tg2,iter2,ifs2,0⟩] scope pos) (tComp wi (fun D=>SetW X.w D []) cap fun D J σ H Q=>Loop g tc (emIn wi2 fun J σ H Q=>Loop g2 tc2 (emSetW X.w D te) J σ H Q) J σ H Q):=by
 refine comp_all (newAcc:=newSet (.type "set")) (p2:=firstIterPos [⟨tg,iter,ifs,0⟩,⟨tg2,iter2,ifs2,0⟩] pos) rfl (fun D=>SetW X.w D []) hs S hc hi (fun pins s σ H Q E I h=>?_) (fun pins ex s3 H3 D it fp tn J σ s H Q R T I st hf h hR=>?_) (fun _ _ _=>rfl) (fun _ _ _=>rfl) (fun E Q s h=>h)
 ·refine newSet_w fun z=>h _ (I.laid (t':=s.toks) (fun b o e=>Heap.get?_push_of_some _ e) (Nat.le_refl _) (setwOk z)) fun b ob e=>Heap.get?_push_of_some _ e
 ·refine o0_6 (hb pins ex s3 H3) fun b1 b2 b3 b4 b5 b6=>?_
  exact comp_loop (X:=cxC X scope cl N' pins ex s3 H3) rfl rfl hc rfl (turnE_set0 elt tg iter tg2 iter2 ifs ifs2 scope pos _ _ _) b1 b2 (pem_inW (X:=cxC X scope cl N' pins ex s3 H3) hc rfl b3 b4 b5 b6 (hs2 _)) T I st hf h hR
end
theorem Inv.drawn {X:Cx} {pins:List (Addr × Obj)} {σ:St} {H:Hp} {s:Shared} (I:Inv X pins σ H s) (d:Drawn):Inv X pins σ H { s with drawn:=d } :=
 ⟨I.ok,I.os,I.bare,I.base,I.loc,I.cell,I.free,I.freeC,I.pin,I.hok,I.len⟩
section
variable {X:Cx}
theorem call_sortedW (hc:X.calm = true):CallR X (.builtin "sorted") (fun xs H Q=>∃ (p:Addr) (ss:List Str),xs = [.ref p]/\H p = some (SetW X.w p ss)/\∀ (l:Addr) (ss':List Str),H l = none->ss'.Perm ss->ss'.Pairwise leS->Q (.ref l) (upd H l (.lst (ss'.map V.str)))):=by
 intro pins s σ H xs us Q I r h
 refine o2_3 h fun p ss zq12 hq q=>?_
 try clear h
 subst zq12
 refine o1_2 (vals1 r) fun u zq13 ru=>?_
 subst zq13
 cases ru
 refine o4_2 (I.setw hq) fun o es ep t S T=>?_
 refine TS.sorted_gen (ST.collect_set (show X.A.in1.handled = none from I.ok.hd hc) S fun s1 its k1 g1 o1 tk1 hpi=>?_)
 have hS:∀ v ∈ its,∃ x tk,v = Value.str x tk:=fun v hv=>by
  refine o1_2 (List.mem_map.mp (hpi.mem_iff.mp hv)) fun e he zq14=>?_
  subst zq14
  refine o2_1 (T.el e he) fun x tk zq15=>?_
  subst zq15
  exact ⟨x,tk,rfl⟩
 have hstr:StrsAre its (its.map strOf):=by
  have:∀ l:List Value,(∀ v ∈ l,∃ x tk,v = Value.str x tk)->StrsAre l (l.map strOf):=by
   intro l
   induction l with
   | nil=>exact fun _=>.nil
   | cons v r ih =>
    intro h
    refine o2_1 (h v (List.mem_cons_self ..)) fun x tk zq16=>?_
    subst zq16
    exact .cons _ _ (ih fun u hu=>h u (List.mem_cons_of_mem _ hu))
  exact this its hS
 have hlen:its.length = es.size:=by rw [hpi.length_eq,List.length_map,Array.length_toList]
 have hfew:=S.few
 have hss:(its.map strOf).Perm ss:=by
  refine (hpi.map strOf).trans ?_
  rw [List.map_map]
  refine List.Perm.trans (List.Perm.of_eq ?_) T.pm
  refine List.map_congr_left fun e he=>?_
  refine o2_1 (T.el e he) fun x tk zq17=>?_
  subst zq17
  rfl
 refine ⟨o1,by rw [sizeLine_eq]; lia,strKind,oneType',fun s2 _=>TS.keys_strs hstr,fun out h' e ho k hg=>?_⟩
 refine o0_2 ho fun hp hs=>?_
 try clear ho
 have hm:∀ v ∈ out.toList,∃ x t,v = .str x t:=fun v hv=>hS v (hp.mem_iff.mp hv)
 have hv:Vals ((out.toList.map strOf).map V.str) out.toList:=by
  have:∀ us:List Value,(∀ v ∈ us,∃ x t,v = .str x t)->Vals ((us.map strOf).map V.str) us:=by
   intro us
   induction us with
   | nil=>exact fun _=>.nil
   | cons v r ih =>
    intro h
    refine o2_1 (h v (List.mem_cons_self ..)) fun x t zq18=>?_
    subst zq18
    exact .cons ⟨t,rfl⟩ (ih fun u hu=>h u (List.mem_cons_of_mem _ hu))
  exact this _ hm
 have hperm:(out.toList.map strOf).Perm ss:=(hp.map strOf).trans hss
 have hpw:(out.toList.map strOf).Pairwise leS:=by
  rw [List.pairwise_map]
  refine (List.Pairwise.and_mem.mp hs).imp fun {u v} ⟨hu,hv',q⟩=>?_
  refine o2_1 (hm u hu) fun x t zq19=>?_
  subst zq19
  refine o2_1 (hm v hv') fun y t' zq20=>?_
  subst zq20
  have q':decide (y.cps.toList < x.cps.toList) = false:=q
  exact of_decide_eq_false q'
 have k0:∀ b o,s.heap.get? b = some o->h'.get? b = some o:=fun b o eb=>k b o (k1 b o eb)
 have hge:s.heap.objs.size<=s1.heap.objs.size:=Nat.le_of_lt tk1
 have hn:H s1.heap.objs.size = none:=I.hok.fresh hge
 obtain ⟨h1,g',d',t',o'⟩:=s1
 have eo:o' = s.os:=o1
 have eg:g' = s.gens:=g1
 subst eo; subst eg
 refine ⟨.ref h1.objs.size,upd H h1.objs.size (.lst ((out.toList.map strOf).map V.str)),?_,rfl,q _ _ hn hperm hpw⟩
 exact (I.laid (a:=h1.objs.size) (o:=.lst ((out.toList.map strOf).map V.str)) (t':=t') k0 hge ⟨by rw [List.length_map,List.length_map,hp.length_eq,sizeLine_eq]; lia,out.toList,e,hv,by simpa using hg⟩).drawn d'
end
end L2
namespace L2
open PySem PySem.Spec PyProof.Rows
noncomputable def SetT (P:Program) (w:World) (a:Addr) (ks:List (List Key × Addr)):HO:=.ext fun h=>ST.TSet (mixKind P w) h a ks
noncomputable def TupsIn (H:Hp) (ks:List (List Key × Addr)):Prop:=∀ q ∈ ks,H q.2 = some (.tup (q.1.map kV))
section
variable {X:Cx} {pins:List (Addr × Obj)} {σ:St} {H:Hp} {s:Shared} {a:Addr} {ks:List (List Key × Addr)}
theorem mix_flat (P:Program) (w:World):ST.Flat (mixKind P w):=fun v ⟨x,h⟩=>(mixKind P w).byValue x v h
theorem mix_scan (P:Program) (w:World):ST.Scan (mixKind P w):=fun v ⟨x,h⟩=>by
 rcases keyIs_shape (show keyIs x v = true from h) with ⟨i,t,_,rfl⟩ | ⟨y,t,_,rfl⟩ <;> rfl
theorem settOk {P:Program} {w:World} {H:Hp} {h:Heap} (z:ST.TSet (mixKind P w) h a ks):ObjOk P w H h a (SetT P w a ks) :=
 ⟨z,let ⟨o,_,_,_,e,_⟩:=z; ⟨o,e⟩,fun h1 h2 ⟨o,es,ep,t,e,r⟩ k=>⟨o,es,ep,t,k o e,r⟩⟩
theorem Inv.sett (I:Inv X pins σ H s) (e:H a = some (SetT X.prog X.w a ks)):ST.TSet (mixKind X.prog X.w) s.heap a ks:=by
 refine o0_2 ((show ObjOk X.prog X.w H s.heap a (SetT X.prog X.w a ks) from I.hok a _ e)) fun z _=>?_
 exact z
theorem call_set0T:CallR X (.type "set") (fun xs H Q=>xs = []/\∀ p,H p = none->Q (.ref p) (upd H p (SetT X.prog X.w p []))):=by
 intro pins s σ H xs us Q I r h
 refine o0_2 h fun zq1 q=>?_
 try clear h
 subst zq1
 cases r
 refine call_set_0 fun led=>⟨.ref s.heap.objs.size,_,I.laid (t':=s.toks) (fun b o e=>Heap.get?_push_of_some _ e) (Nat.le_refl _) (settOk ?_),rfl,q _ (I.hok.fresh (Nat.le_refl _))⟩
 exact ⟨_,#[],0,_,Heap.get?_push_size _ rfl,⟨rfl,rfl,rfl⟩,rfl,.refl _,⟨rfl,rfl,.inl rfl,by show 0 * 5 < 7 * 3; decide⟩⟩
noncomputable def rInT (P:Program) (w:World):R2:=fun x y H Q=>∃ a p ks k,y = .ref a/\x = .ref p/\H a = some (SetT P w a ks)/\H p = some (.tup (k.map kV))/\TupsIn H ks/\(∀ q ∈ ks,q.1 ≠ k)/\Q (.bl false) H
theorem op_in_sett (hu:X.A.units + 1 < cLine):OpR X (compareOp .In) (rInT X.prog X.w):=by
 intro pins s σ H x y v u Q I rx ry h
 refine o4_7 h fun a p ks k zq2 zq3 hH hp ht hn q=>?_
 try clear h
 subst zq2
 subst zq3
 cases ry
 cases rx
 exact ST.in_free (neg:=false) hu (mix_flat _ _) (I.sett hH) (fun z hz=>key_of I.hok (ht z hz)) (key_of I.hok hp) hn ⟨.bl false,H,I.tok _,rfl,q⟩
noncomputable def rAddT (P:Program) (w:World):V->List V->Hp->VK->Prop:=fun x vs H Q=>∃ a p ks k,x = .ref a/\vs = [.ref p]/\H a = some (SetT P w a ks)/\H p = some (.tup (k.map kV))/\TupsIn H ks/\(∀ q ∈ ks,q.1 ≠ k)/\ks.length + 1<=300/\Q .non (upd H a (SetT P w a (ks ++ [(k,p)])))
theorem mt_addT (hu:X.A.units + 1 < cLine):MtM X "set.add" (rAddT X.prog X.w):=by
 intro pins s σ H x vs v us Q I rx rv h
 refine o4_8 h fun a p ks k zq4 zq5 hH hp ht hn hl q=>?_
 try clear h
 subst zq4
 subst zq5
 cases rx
 refine o1_2 rv.one fun u zq6 ru=>?_
 subst zq6
 cases ru
 refine ST.call_add hu (mix_flat _ _) (mix_scan _ _) (I.sett hH) (fun z hz=>key_of I.hok (ht z hz)) (key_of I.hok hp) hn hl fun h' hs z=>?_
 exact ⟨.non,_,I.write (x:=a) (e:=a) (by rw [hH]; exact True.intro) (.inl rfl) (fun b q hb e=>(hs.2 b hb).trans e) (let ⟨o,_,_,_,e,_⟩:=z; ⟨o,e⟩) (settOk z),rfl,q⟩
end
section
variable {X:Cx} {tg:Expr}
noncomputable def iSeq (K:PySem.W.Frag) (tl:TE):TI:=fun σ H R=>tl σ H fun x H1=>∃ a,x = .ref a/\(((∃ xs,SqL K H1 a xs)/\R (Itl K a) H1)\/((∃ xs,SqT K H1 a xs)/\R (Itt K a) H1))
theorem pi_seq {l:Expr} {tl:TE} (hl:PE X l tl):PI X tg l (iSeq X.K tl):=by
 intro pins s σ H R I h
 refine thn (hl pins s σ H _ I h) fun v s1 ⟨x,H1,I1,r1,q1⟩=>?_
 obtain ⟨a,e,q1⟩:=q1
 subst e
 cases r1
 have fin:∀ b,b ∈ [s1.heap.objs.size]->FpOk X pins H1 b:=fun b hb=>by
  have e:b = s1.heap.objs.size:=by simpa using hb
  subst e
  exact I1.fpOk (Nat.le_refl _) (I1.hok.fresh (Nat.le_refl _))
 rcases q1 with ⟨⟨xs,hq⟩,q⟩ | ⟨⟨xs,hq⟩,q⟩
 ·refine o1_3 (I1.list hq) fun its rv p hz=>?_
  refine wpAny_pyIter_list p.isList ?_
  exact ⟨s1.heap.objs.size,[s1.heap.objs.size],_,_,H1,rfl,I1.kept (t':=s1.toks) fun b o e=>Heap.get?_push_of_some _ e,turn_list a _,⟨_,Heap.get?_push_size _ rfl,rfl,rfl⟩,fin,q⟩
 ·refine o1_3 (I1.tuple hq) fun its rv p hz=>?_
  refine wpAny_pyIter_tuple (show s1.heap.IsTuple a its.toArray from p) ?_
  exact ⟨s1.heap.objs.size,[s1.heap.objs.size],_,_,H1,rfl,I1.kept (t':=s1.toks) fun b o e=>Heap.get?_push_of_some _ e,turn_tuple a _,⟨_,Heap.get?_push_size _ rfl,rfl,rfl⟩,fin,q⟩
end
section
variable {X:Cx}
theorem call_isin:CallR X (.builtin "isinstance") (fun xs H Q=>∃ x n t b,xs = [x,.ty n]/\TyOf X.K H x t/\PySem.W.kitOne X.K t (.type n) = some b/\Q (.bl b) H):=by
 intro pins s σ H xs us Q I r h
 refine o4_4 h fun x n t b zq7 ht he q=>?_
 try clear h
 subst zq7
 refine o2_3 r.two fun u v zq8 ru rv=>?_
 subst zq8
 cases rv
 exact isinst_ok I ru ht he fun tk=>⟨.bl b,H,I.tok _,rfl,q⟩
end
end L2
namespace L2
open PySem PySem.Spec PyProof.Rows
mutual
noncomputable def Rp (K:PySem.W.Frag) (H:Hp):PyData->V->Prop
 | .none,v=>v = .non
 | .bool b,v=>v = .bl b
 | .int i,v=>v = .int i
 | .str x,v=>v = .str x
 | .list ds,v=>∃ a xs,v = .ref a/\SqL K H a xs/\Rps K H ds xs
 | .tuple ds,v=>∃ a xs,v = .ref a/\SqT K H a xs/\Rps K H ds xs
 | .dict _,_=>False
noncomputable def Rps (K:PySem.W.Frag) (H:Hp):List PyData->List V->Prop
 | [],vs=>vs = []
 | d :: ds,vs=>∃ v r,vs = v :: r/\Rp K H d v/\Rps K H ds r
end
section
variable {X:Cx} {pins:List (Addr × Obj)} {σ:St} {H:Hp} {s:Shared}
mutual
theorem Inv.reads (I:Inv X pins σ H s):∀ (d:PyData) (v:V) (u:Value),Rp X.K H d v->RelV v u->∃ as,Reads s.heap u d as
 | .none,v,u,h,r=>by
  cases (show v = .non by simpa [Rp] using h)
  cases r
  exact ⟨_,.none⟩
 | .bool b,v,u,h,r=>by
  cases (show v = .bl b by simpa [Rp] using h)
  cases r
  exact ⟨_,.bool b⟩
 | .int i,v,u,h,r=>by
  cases (show v = .int i by simpa [Rp] using h)
  refine o1_1 r fun t zq1=>?_
  try clear r
  subst zq1
  exact ⟨_,.int i t⟩
 | .str x,v,u,h,r=>by
  cases (show v = .str x by simpa [Rp] using h)
  refine o1_1 r fun t zq2=>?_
  try clear r
  subst zq2
  exact ⟨_,.str x t⟩
 | .list ds,v,u,h,r=>by
  obtain ⟨a,xs,e,hq,hs⟩:=(show ∃ a xs,v = V.ref a/\SqL X.K H a xs/\Rps X.K H ds xs by simpa [Rp] using h)
  subst e
  cases r
  refine o1_3 (I.list hq) fun its rv zq3 _=>?_
  refine o2_4 zq3 fun o n e hc hd hda=>?_
  refine o1_1 (I.readsAll ds xs its hs rv) fun as z=>?_
  exact ⟨_,.list e hc hda (by simpa using z)⟩
 | .tuple ds,v,u,h,r=>by
  obtain ⟨a,xs,e,hq,hs⟩:=(show ∃ a xs,v = V.ref a/\SqT X.K H a xs/\Rps X.K H ds xs by simpa [Rp] using h)
  subst e
  cases r
  refine o1_3 (I.tuple hq) fun its rv zq4 _=>?_
  obtain ⟨o,e,hc,n,hda⟩:=zq4
  refine o1_1 (I.readsAll ds xs its hs rv) fun as z=>?_
  exact ⟨_,.tuple e hc hda (by simpa using z)⟩
 | .dict _,v,u,h,r=>by simp [Rp] at h
theorem Inv.readsAll (I:Inv X pins σ H s):∀ (ds:List PyData) (vs:List V) (us:List Value),Rps X.K H ds vs->Vals vs us->∃ as,ReadsAll s.heap us ds as
 | [],vs,us,h,r=>by
  cases (show vs = [] by simpa [Rps] using h)
  cases r
  exact ⟨_,.nil⟩
 | d :: ds,vs,us,h,r=>by
  obtain ⟨v,vr,e,h1,h2⟩:=(show ∃ v r,vs = v :: r/\Rp X.K H d v/\Rps X.K H ds r by simpa [Rps] using h)
  subst e
  cases r with
  | cons r1 r2 =>
   refine o1_1 (I.reads d v _ h1 r1) fun as z=>?_
   refine o1_1 (I.readsAll ds vr _ h2 r2) fun bs z'=>?_
   exact ⟨_,.cons z z'⟩
end
noncomputable def Pl (d:PyData):Prop:=d.canLay0 = true/\d.depth<=50
noncomputable def rEqD (K:PySem.W.Frag):R2:=fun x y H Q=>∃ d e,Rp K H d x/\Rp K H e y/\Pl d/\Pl e/\Q (.bl (PyData.eqv d e)) H
noncomputable def rNeD (K:PySem.W.Frag):R2:=fun x y H Q=>∃ d e,Rp K H d x/\Rp K H e y/\Pl d/\Pl e/\Q (.bl (!PyData.eqv d e)) H
theorem op_eqD (hu:X.A.units + 64 < cLine):OpR X (compareOp .Eq) (rEqD X.K):=by
 intro pins s σ H x y v u Q I rx ry h
 refine o2_5 h fun d e h1 h2 p1 p2 q=>?_
 try clear h
 refine o1_1 (I.reads d x v h1 rx) fun as z1=>?_
 refine o1_1 (I.reads e y u h2 ry) fun bs z2=>?_
 exact PySem.SeqAt.compareEq_reads z1 z2 p1.1 p2.1 (by have:=p1.2; have:=p2.2; lia) ⟨.bl (PyData.eqv d e),H,I,rfl,q⟩
theorem op_neD (hu:X.A.units + 64 < cLine):OpR X (compareOp .NotEq) (rNeD X.K):=by
 intro pins s σ H x y v u Q I rx ry h
 refine o2_5 h fun d e h1 h2 p1 p2 q=>?_
 try clear h
 refine o1_1 (I.reads d x v h1 rx) fun as z1=>?_
 refine o1_1 (I.reads e y u h2 ry) fun bs z2=>?_
 exact PySem.SeqAt.compareNe_reads z1 z2 p1.1 p2.1 (by have:=p1.2; have:=p2.2; lia) ⟨.bl (!PyData.eqv d e),H,I,rfl,q⟩
noncomputable def rInD (K:PySem.W.Frag) (neg:Bool):R2:=fun x y H Q=>∃ d ds,Rp K H d x/\(Rp K H (.list ds) y\/Rp K H (.tuple ds) y)/\Pl d/\PyData.canLayAll0 ds = true/\Q (.bl (if neg then !(ds.any fun z=>PyData.eqv z d) else ds.any fun z=>PyData.eqv z d)) H
theorem op_inD (hu:X.A.units + 64 < cLine):OpR X (compareOp .In) (rInD X.K false):=by
 intro pins s σ H x y v u Q I rx ry h
 refine o2_5 h fun d ds h1 h2 p1 p2 q=>?_
 try clear h
 refine o1_1 (I.reads d x v h1 rx) fun as z1=>?_
 have hu':X.A.units + 1 + min (PyData.depthAll ds) d.depth < cLine:=by have:=p1.2; lia
 rcases h2 with h2 | h2
 ·refine o1_1 (I.reads (.list ds) y u h2 ry) fun bs z2=>?_
  exact PySem.SeqAt.in_list_reads z2 z1 p2 p1.1 hu' ⟨.bl _,H,I,rfl,q⟩
 ·refine o1_1 (I.reads (.tuple ds) y u h2 ry) fun bs z2=>?_
  exact PySem.SeqAt.in_tuple_reads z2 z1 p2 p1.1 hu' ⟨.bl _,H,I,rfl,q⟩
theorem op_notInD (hu:X.A.units + 64 < cLine):OpR X (compareOp .NotIn) (rInD X.K true):=by
 intro pins s σ H x y v u Q I rx ry h
 refine o2_5 h fun d ds h1 h2 p1 p2 q=>?_
 try clear h
 refine o1_1 (I.reads d x v h1 rx) fun as z1=>?_
 have hu':X.A.units + 1 + min (PyData.depthAll ds) d.depth < cLine:=by have:=p1.2; lia
 rcases h2 with h2 | h2
 ·refine o1_1 (I.reads (.list ds) y u h2 ry) fun bs z2=>?_
  exact PySem.SeqAt.notIn_list_reads z2 z1 p2 p1.1 hu' ⟨.bl _,H,I,rfl,q⟩
 ·refine o1_1 (I.reads (.tuple ds) y u h2 ry) fun bs z2=>?_
  exact PySem.SeqAt.notIn_tuple_reads z2 z1 p2 p1.1 hu' ⟨.bl _,H,I,rfl,q⟩
end
section
variable {X:Cx}
theorem Vals.insert {xs:List V} {us:List Value} {x:V} {u:Value} (h:Vals xs us) (r:RelV x u) (k:Nat):Vals (xs.take k ++ x :: xs.drop k) (us.take k ++ u :: us.drop k):=(h.take k).append (.cons r (h.drop k))
noncomputable def rInsert:V->List V->Hp->VK->Prop:=fun x vs H Q=>∃ l xs i k y,x = .ref l/\vs = [.int i,y]/\i = ((k:Nat):Int)/\H l = some (.lst xs)/\k<=xs.length/\xs.length < sizeLine/\Q .non (upd H l (.lst (xs.take k ++ y :: xs.drop k)))
theorem fitsN {k:Nat} {i:Int} (e:i = (k:Int)) (h:k<=sizeLine):¬ (!Builtin.List.listFitsIndex i) = true:=by
 rw [sizeLine_eq] at h
 have h1:-(2 ^ 63:Int)<=i:=by lia
 have h2:i < 2 ^ 63:=by lia
 have:=fitsIndex_both h1 h2
 simpa using this
theorem mt_insert:MtM X "list.insert" rInsert:=by
 intro pins s σ H x vs v us Q I rx rv h
 refine o5_7 h fun l xs i k y zq5 zq6 hi hH hk hz q=>?_
 try clear h
 subst zq5
 subst zq6
 cases rx
 refine o2_3 rv.two fun u1 u2 zq7 zq8 ru=>?_
 subst zq7
 refine o1_1 zq8 fun t zq9=>?_
 subst zq9
 obtain ⟨z,its,n,r,hl,e⟩:=(I.lstM hH)
 have h0:k<=sizeLine:=by lia
 have h1:=fitsN hi h0
 have h2:its.toArray.size<=sizeLine:=by rw [List.size_toArray]; lia
 have hM:=@PySem.AutoListH.list_insert_list_int_val_1 l its.toArray n i t u2 h1 h2
 refine call_meets F.slot_list_insert ⟨_,e,rfl⟩ F.entry_list_insert (F.args_list_insert_3 _ _ _) hM ⟨e,?_⟩
 refine ⟨.non,_,I.lset (its':=its.take k ++ u2 :: its.drop k) hH e ?_ (r.insert ru k) ?_,rfl,q⟩
 ·have hmin:min k its.length = k:=by lia
  have hn:¬ ((k:Int) < 0):=by lia
  subst hi
  have hneg:¬ ((k:Int) + 0 < 0):=by lia
  have e3:List.take (its.length - k) (List.drop k its) = List.drop k its:=List.take_of_length_le (by simp)
  simp [hmin,hn,e3]
 ·rw [List.length_append,List.length_cons,List.length_take,List.length_drop]
  lia
noncomputable def rIndexS (K:PySem.W.Frag):V->List V->Hp->VK->Prop:=fun x vs H Q=>∃ (l:Addr) (ss:List Str) (y:Str) (j:Nat),x = .ref l/\vs = [.str y]/\SqL K H l (ss.map V.str)/\ss[j]? = some y/\(∀ m,m < j->ss[m]? ≠ some y)/\Q (.int (j:Nat)) H
theorem vals_str_get {ss:List Str} {us:List Value} (h:Vals (ss.map V.str) us) {i:Nat} (hi:i < us.length):∃ x t,ss[i]? = some x/\us[i] = .str x t:=by
 have hl:=h.length
 rw [List.length_map] at hl
 obtain ⟨x,hx⟩:∃ x,ss[i]? = some x:=⟨ss[i]'(by lia),List.getElem?_eq_getElem (by lia)⟩
 obtain ⟨u,hu,t,rfl⟩:=h.get (i:=i) (x:=.str x) (by rw [List.getElem?_map,hx]; rfl)
 refine ⟨x,t,hx,?_⟩
 have:=List.getElem?_eq_getElem hi
 rw [hu] at this
 exact (Option.some.inj this).symm
theorem mt_indexS:MtM X "list.index" (rIndexS X.K):=by
 intro pins s σ H x vs v us Q I rx rv h
 refine o4_6 h fun l ss y j zq10 zq11 hq hj hno q=>?_
 try clear h
 subst zq10
 subst zq11
 cases rx
 refine o1_2 rv.one fun u zq12 zq13=>?_
 subst zq12
 refine o1_1 zq13 fun tk zq14=>?_
 subst zq14
 refine o1_3 (I.list hq) fun its r zq15 hz=>?_
 refine o2_4 zq15 fun o n e hc hd hda=>?_
 have hlen:=r.length
 rw [List.length_map] at hlen hz
 have hjl:j < its.length:=by
  have:=(List.getElem?_eq_some_iff.mp hj).1
  lia
 obtain ⟨cls,dd,data,sl⟩:=o
 simp only at hc hd hda
 subst hc hda
 let ev:Value->Bool:=fun v=>match v with | .str x _=>x == y | _=>false
 have hM:=PySem.SeqAt.list_indexAt l its.toArray n dd sl (.str y tk) ev j (by simpa using hjl) (by rw [sizeLine_eq] at hz; lia) ?_ ?_
 ·refine call_meets F.slot_list_index ⟨_,e,rfl⟩ F.entry_list_index (F.args_list_index_2 _ _) hM ⟨e,?_,?_⟩
  ·intro v hv
   have hv':v ∈ its:=by simpa using hv
   obtain ⟨i,hi,zq16⟩:=(List.getElem_of_mem hv')
   subst zq16
   refine o2_2 (vals_str_get r hi) fun x t _ e2=>?_
   rw [e2]
   exact PySem.SeqAt.EqAt.str_str x t y tk
  ·exact ⟨.int (j:Nat),H,I.tok _,⟨_,rfl⟩,q⟩
 ·refine o2_2 (vals_str_get r hjl) fun x t e1 e2=>?_
  rw [hj] at e1
  cases e1
  show ev (its.toArray[j]'(by simpa using hjl)) = true
  rw [show its.toArray[j]'(by simpa using hjl) = its[j] from by simp,e2]
  exact beq_self_eq_true y
 ·intro m hm hmj
  have hm':m < its.length:=by simpa using hm
  refine o2_2 (vals_str_get r hm') fun x t e1 e2=>?_
  show ev (its.toArray[m]'hm) = false
  rw [show its.toArray[m]'hm = its[m] from by simp,e2]
  show (x == y) = false
  rw [beq_eq_false_iff_ne]
  rintro rfl
  exact hno m hmj e1
noncomputable def rSplit:V->List V->Hp->VK->Prop:=fun x vs H Q=>∃ z y ps,x = .str z/\vs = [.str y]/\(decide (z.length < y.length) || decide (Builtin.Str.strKind z < Builtin.Str.strKind y)) = false/\(y.length == 0) = false /\
 (Builtin.Str.occurrences z y 0 z.length (z.length + 1)).isEmpty = false/\z.length<=4000/\Builtin.Str.partsBetween z (Builtin.Str.occurrences z y 0 z.length (z.length + 1)) y.length = ps/\ps.length<=4000/\∀ l,H l = none->Q (.ref l) (upd H l (.lst (ps.map V.str)))
theorem vals_from:∀ (ps:List Str) (tk:Nat),Vals (ps.map V.str) (strsFrom tk ps)
 | [],_=>.nil
 | _ :: r,tk=>.cons ⟨tk,rfl⟩ (vals_from r (tk + 1))
theorem mt_split:MtM X "str.split" rSplit:=by
 intro pins s σ H x vs v us Q I rx rv h
 refine o3_9 h fun z y ps zq17 zq18 h1 h2 h3 h4 zq19 h6 q=>?_
 try clear h
 subst zq17
 subst zq18
 subst zq19
 refine o1_1 rx fun t zq20=>?_
 try clear rx
 subst zq20
 refine o1_2 rv.one fun u zq21 zq22=>?_
 subst zq21
 refine o1_1 zq22 fun tk zq23=>?_
 subst zq23
 have hz:z.length<=sizeLine:=by rw [sizeLine_eq]; lia
 have hp:(Builtin.Str.partsBetween z (Builtin.Str.occurrences z y 0 z.length (z.length + 1)) y.length).length<=sizeLine:=by rw [sizeLine_eq]; lia
 refine call_meets F.slot_str_split (typeIs_str _ _ _) F.entry_str_split (F.args_str_split_2 _ _) (PySem.meets_str_split_sep z y t tk h1 h2 h3 hz hp) ?_
 exact ⟨.ref s.heap.objs.size,_,I.lnew (vals_from _ _) (by rw [List.length_map]; exact hp),rfl,q _ I.fresh⟩
end
end L2
namespace L2
open PySem PySem.Spec PyProof.Rows
section
variable {X:Cx}
noncomputable def repS (x:Str) (n:Nat):Str:=⟨(List.replicate n x.cps).foldl (· ++ ·) #[]⟩
theorem repS_one (x:Str):repS x 1 = x:=by
 unfold repS
 simp
theorem foldl_nil:∀ (n:Nat) (acc:Array Nat),(List.replicate n (#[]:Array Nat)).foldl (· ++ ·) acc = acc
 | 0,_=>rfl
 | n + 1,acc=>by rw [List.replicate_succ,List.foldl_cons,Array.append_empty]; exact foldl_nil n acc
theorem rep_size (a:Array Nat):∀ (n:Nat) (acc:Array Nat),((List.replicate n a).foldl (· ++ ·) acc).size = acc.size + n * a.size
 | 0,_=>by simp
 | n + 1,acc=>by rw [List.replicate_succ,List.foldl_cons,rep_size a n,Array.size_append,Nat.succ_mul]; lia
theorem op_rep_str:OpR X (binaryOp .Mult) (fun x y H Q=>∃ z i n,x = .str z/\y = .int i/\i = ((n:Nat):Int)/\n<=100/\z.length<=1000/\Q (.str (repS z n)) H):=by
 intro pins s σ H x y v u Q I rx ry h
 refine o3_6 h fun z i n zq1 zq2 hi hn hz q=>?_
 try clear h
 subst zq1
 subst zq2
 refine o1_1 rx fun t zq3=>?_
 try clear rx
 subst zq3
 refine o1_1 ry fun tk zq4=>?_
 try clear ry
 subst zq4
 have hlen:z.length = z.cps.size:=rfl
 refine PySem.P.mul_str ?_ ?_ ?_ ?_
 ·rw [decide_eq_false (by lia),decide_eq_false (by lia)]; rfl
 ·intro h1 _ hgt
  have hm:(z.length:Int) * i<=1000 * 100:=Int.mul_le_mul (by lia) (by lia) (by lia) (by lia)
  have:=Int.le_ediv_of_mul_le (a:=(z.length:Int)) (b:=2 ^ 63 - 1) (c:=i) (by lia) (by lia)
  lia
 ·intro _ _
  have hm:z.length * i.toNat<=1000 * 100:=Nat.mul_le_mul hz (by lia)
  unfold Builtin.Str.tooLong
  exact decide_eq_false (by rw [sizeLine_eq]; lia)
 ·have e0:i.toNat = n:=by lia
  rw [e0]
  by_cases h1:i < 1
  ·rw [if_pos h1]
   have:n = 0:=by lia
   subst this
   exact ⟨by decide,.str (repS z 0),H,I.tok _,⟨_,rfl⟩,q⟩
  ·rw [if_neg h1]
   by_cases h2:(i == 1 || z.length == 0) = true
   ·rw [if_pos h2]
    have hz:repS z n = z:=by
     rcases Bool.or_eq_true _ _ ▸ h2 with z1 | z1
     ·have:n = 1:=by have:=eq_of_beq z1; lia
      subst this
      exact repS_one z
     ·have:z.cps = #[]:=Array.eq_empty_of_size_eq_zero (by rw [hlen] at z1; exact eq_of_beq z1)
      unfold repS
      rw [this,foldl_nil]
      cases z
      simp at this
      rw [this]
    rw [hz] at q
    exact ⟨.str z,H,I,⟨t,rfl⟩,q⟩
   ·rw [if_neg h2]
    refine ⟨?_,.str (repS z n),H,I.tok _,⟨_,rfl⟩,q⟩
    show (repS z n).cps.size<=sizeLine
    unfold repS
    rw [rep_size,sizeLine_eq]
    have hm:n * z.cps.size<=100 * 1000:=Nat.mul_le_mul hn (by rw [<-hlen]; exact hz)
    simp only [Array.size_empty]
    lia
end
structure Fn (K:PySem.W.Frag) (mg:Str->Option Value) (x:Str) (st:Stmt) (ps:List Str) where
 f:Addr
 fd:FuncData
 F:Fun K x x st f fd
 b:Binds K fd ps []
 m:mg x = some (.ref f)
structure Mt (K:PySem.W.Frag) (C:Addr) (m qual:Str) (st:Stmt) (ps:List Str) where
 f:Addr
 fd:FuncData
 F:Fun K m qual st f fd
 b:Binds K fd ps []
 m:Meth K C m f
section
variable {X:Cx}
theorem pe_fn {x:Str} {st:Stmt} {ps:List Str} {k:Nat} {sp:Sp} {e:Expr} {es:List Expr} {t:TA} {p pos:Pos} (D:Fn X.K X.mg x st ps) (G:FnOk X.prog X.w X.K X.mg X.base CX0 k D.f D.fd ps sp) (hr:Room k X.A) (ha:PA X (e :: es) t)
  (hg:Gl X x:=by rfl) (hdb:(x == ("__debug__":Str)) = false:=by decide) (hs:starEach (e :: es) X.env = (false,eval e X.env) :: starEach es X.env:=by rfl) (hpl:(backTo pos (starEach es X.env)).any (·.1) = false:=by rfl) :
  PE X (.Call (.Name x p) (e :: es) [] pos) (tCall sp [] E0 t):=pe_call G hr hg D.m D.F.kp D.b .nil pass0 ha hdb hs hpl
noncomputable def SetLike (P:Program) (w:World) (x:V) (H:Hp):Prop:=∃ p,x = .ref p/\((∃ l,H p = some (SetS P w p l))\/(∃ l,H p = some (SetW w p l))\/∃ ks,H p = some (SetT P w p ks))
theorem set_is {pins:List (Addr × Obj)} {σ:St} {H:Hp} {s:Shared} {x:V} {v:Value} (I:Inv X pins σ H s) (r:RelV x v) (ty:SetLike X.prog X.w x H):s.TypeIs v "set"/\∀ a,v = .ref a->∃ ob,s.heap.get? a = some ob/\ob.dict = none:=by
 refine o1_2 ty fun p zq5 h=>?_
 try clear ty
 subst zq5
 cases r
 have z:∃ o,s.heap.get? p = some o/\o.ExactSet:=by
  rcases h with ⟨l,h⟩ | ⟨l,h⟩ | ⟨l,h⟩
  ·refine o4_3 (I.set h) fun o _ _ _ e ex _=>?_
   exact ⟨o,e,ex⟩
  ·refine o4_2 (I.setw h) fun o _ _ _ S _=>?_
   exact ⟨o,S.ho,S.ex⟩
  ·refine o4_3 (I.sett h) fun o _ _ _ e ex _=>?_
   exact ⟨o,e,ex⟩
 refine o1_2 z fun o e ex=>?_
 try clear z
 refine ⟨⟨o,e,ex.1⟩,fun a e2=>?_⟩
 cases e2
 exact ⟨o,e,ex.2.1⟩
noncomputable def tBMS (P:Program) (w:World) (r:V->List V->Hp->VK->Prop) (to:TE) (t:TA):TE:=fun σ H Q=>to σ H fun x H1=>SetLike P w x H1/\t σ H1 fun xs H2=>r x xs H2 Q
theorem pe_sadd {o e:Expr} {to:TE} {t:TA} {apos cpos:Pos} {r:V->List V->Hp->VK->Prop} (hm:MtM X "set.add" r) (ho:PE X o to) (ha:PA X [e] t)
  (hbase:attributeBase o "add" X.env (eval o X.env) = eval o X.env:=by rfl)
  (hfew:((backTo cpos (starEach [e] X.env)).all (fun x=>!x.1) && (backToKw cpos (keywordEach [] X.env)).all (fun x=>x.1.isSome)
   && decide ([e].length + ([]:List Keyword).length + (if ([]:List Keyword).isEmpty then 0 else 1) < 30)) = true:=by rfl)
  (hline:(apos.endLine == cpos.line) = true:=by rfl) (hs:starEach [e] X.env = [(false,eval e X.env)]:=by rfl) :
  PE X (.Call (.Attribute o "add" apos) [e] [] cpos) (tBMS X.prog X.w r to t):=by
 intro pins s σ H Q I h
 refine wpAny_Call_method_late hbase hfew hline rfl (thn (ho pins s σ H _ I h) fun v s1 zz=>?_)
 refine o2_4 zz fun x H1 I1 r1 ty q1=>?_
 try clear zz
 refine o0_2 (set_is I1 r1 ty) fun h1 h2=>?_
 refine ⟨"set", "set.add",F.plainAttrs_set,F.slot_set_add,F.type_set_add,h1,h2,?_⟩
 have hA:=ha cpos pins s1 σ H1 _ I1 q1
 rw [hs] at hA ⊢
 refine Calls.callWith_builtin rfl (Calls.evalArgs_plain ?_)
 exact thn hA fun us s2 ⟨vs,H2,I2,r2,q2⟩=>hm pins s2 σ H2 x vs v us Q I2 r1 r2 q2
theorem pe_gi {x:Str} {i:Int} {pos:Pos} (h:∃ t,X.mg x = some (.int i t)) (hg:Gl X x:=by rfl) (hd:(x == ("__debug__":Str)) = false:=by decide):PE X (.Name x pos) (tC (.int i)):=by
 refine o1_1 h fun t e=>?_
 try clear h
 exact pe_glob hg e ⟨t,rfl⟩ hd
theorem pe_gs {x y:Str} {pos:Pos} (h:∃ t,X.mg x = some (.str y t)) (hg:Gl X x:=by rfl) (hd:(x == ("__debug__":Str)) = false:=by decide):PE X (.Name x pos) (tC (.str y)):=by
 refine o1_1 h fun t e=>?_
 try clear h
 exact pe_glob hg e ⟨t,rfl⟩ hd
theorem pe_ty {x:Str} {n:String} {pos:Pos} (hm:X.mg x = none) (hv:bootBuiltins x = some (.type n)) (hg:Gl X x:=by rfl) (hn:x ≠ "__name__":=by decide) (hd:(x == ("__debug__":Str)) = false:=by decide):PE X (.Name x pos) (tC (.ty n)) :=
 pe_bltn hg hm hv rfl hn hd
theorem pe_bf {x:Str} {id:String} {r:List V->Hp->VK->Prop} {e:Expr} {es:List Expr} {t:TA} {p pos:Pos} (hc:CallR X (.builtin id) r) (hm:X.mg x = none) (hv:bootBuiltins x = some (.builtin id)) (ha:PA X (e :: es) t) (hg:Gl X x:=by rfl) (hn:x ≠ "__name__":=by decide) (hdb:(x == ("__debug__":Str)) = false:=by decide)
  (hs:starEach (e :: es) X.env = (false,eval e X.env) :: starEach es X.env:=by rfl) (hpl:(backTo pos (starEach es X.env)).any (·.1) = false:=by rfl):PE X (.Call (.Name x p) (e :: es) [] pos) (tCB r t):=pe_callB hc hg hm hv ha hn hdb hs hpl
theorem pe_bt {x:Str} {T:String} {r:List V->Hp->VK->Prop} {e:Expr} {es:List Expr} {t:TA} {p pos:Pos} (hc:CallR X (.type T) r) (hm:X.mg x = none) (hv:bootBuiltins x = some (.type T)) (ha:PA X (e :: es) t) (hg:Gl X x:=by rfl) (hn:x ≠ "__name__":=by decide) (hdb:(x == ("__debug__":Str)) = false:=by decide)
  (hs:starEach (e :: es) X.env = (false,eval e X.env) :: starEach es X.env:=by rfl) (hpl:(backTo pos (starEach es X.env)).any (·.1) = false:=by rfl):PE X (.Call (.Name x p) (e :: es) [] pos) (tCB r t):=pe_callTy hc hg hm hv ha hn hdb hs hpl
theorem cs_mk {scope:Scope} {cl:List (Str × Addr)} {N':List Str} {cap:List (Option Nat)} (caps:Caps X scope cl N' cap) (cin:ClIn X cl) (clos:closureFor scope X.env = pure cl:=by rfl) (kind:scope.kind = .function:=by rfl) (nocell:∀ y ∈ scope.names,y.2 ≠ .cell:=by decide +kernel)
  (loc:∀ y ∈ scope.names,y.2 = .local->scope.names.lookup y.1 = some .local:=by decide +kernel) (has:((relabel scope X.env).names.all fun y=>!(y.2 == .cell || y.2 == .free) || (cl.lookup y.1).isSome) = true:=by rfl):CScope X scope cl N' cap:=⟨kind,nocell,loc,clos,cin,has,caps⟩
theorem pgC {scope:Scope} {cl:List (Str × Addr)} {N':List Str} {pins:List (Addr × Obj)} {ex:List Addr} {s3:Shared} {H3:Hp} {x:Str} {pos:Pos} (i:Nat) (hN:N'.Nodup:=by decide +kernel) (hi:N'[i]? = some x:=by rfl) (hx:Loc (cxC X scope cl N' pins ex s3 H3).env.scope x:=by exact Or.inl rfl)
  (hf:(cxC X scope cl N' pins ex s3 H3).env.scope.names.lookup x = some .local:=by rfl):PG (cxC X scope cl N' pins ex s3 H3) (.Name x pos) (gName i):=pg_name (X:=cxC X scope cl N' pins ex s3 H3) hN hi hx (.inr hf)
end
theorem bt_len:bootBuiltins "len" = some (.builtin "len"):=by decide +kernel
theorem bt_enumerate:bootBuiltins "enumerate" = some (.type "enumerate"):=by decide +kernel
theorem bt_min:bootBuiltins "min" = some (.builtin "min"):=by decide +kernel
theorem bt_max:bootBuiltins "max" = some (.builtin "max"):=by decide +kernel
theorem bt_abs:bootBuiltins "abs" = some (.builtin "abs"):=by decide +kernel
theorem bt_sorted:bootBuiltins "sorted" = some (.builtin "sorted"):=by decide +kernel
theorem bt_int:bootBuiltins "int" = some (.type "int"):=by decide +kernel
theorem bt_str:bootBuiltins "str" = some (.type "str"):=by decide +kernel
theorem bt_bool:bootBuiltins "bool" = some (.type "bool"):=by decide +kernel
theorem bt_list:bootBuiltins "list" = some (.type "list"):=by decide +kernel
theorem bt_tuple:bootBuiltins "tuple" = some (.type "tuple"):=by decide +kernel
theorem bt_set:bootBuiltins "set" = some (.type "set"):=by decide +kernel
theorem bt_isinstance:bootBuiltins "isinstance" = some (.builtin "isinstance"):=by decide +kernel
theorem bt_all:bootBuiltins "all" = some (.builtin "all"):=by decide +kernel
end L2
namespace L2
open PySem PySem.Spec PyProof.Rows
noncomputable def KeepAt (a:Addr) (H0 H:Hp):Prop:=∀ o,H0 a = some o->H a = some o
noncomputable def Sm (D:List Addr) (H H':Hp):Prop:=∀ b o,H b = some o->b ∉ D->H' b = some o
theorem Same.at {H0 H:Hp} (h:Same H0 H) (a:Addr):KeepAt a H0 H:=fun o e=>h a o e
theorem Same.new {H:Hp} {p:Addr} {o:HO} (h:H p = none):Same H (upd H p o):=fun b u e=>by rw [upd_ne (ne_of_none e h)]; exact e
theorem Same.upd {H0 H:Hp} {p:Addr} {o:HO} (s:Same H0 H) (h:H0 p = none):Same H0 (upd H p o):=fun b u e=>by rw [upd_ne (ne_of_none e h)]; exact s b u e
theorem Same.sm {D:List Addr} {H H':Hp} (h:Same H H'):Sm D H H':=fun b o e _=>h b o e
theorem Sm.refl (D:List Addr) (H:Hp):Sm D H H:=fun _ _ e _=>e
theorem Sm.trans {D:List Addr} {H H1 H2:Hp} (a:Sm D H H1) (b:Sm D H1 H2):Sm D H H2:=fun c o h n=>b c o (a c o h n) n
theorem Sm.new {D:List Addr} {H H1:Hp} {p:Addr} {o:HO} (a:Sm D H H1) (h:H1 p = none):Sm D H (L2.upd H1 p o):=fun b u e n=>by
 have:=a b u e n
 rw [upd_ne (ne_of_none this h)]; exact this
theorem Sm.upd {D:List Addr} {H H1:Hp} {p:Addr} {o:HO} (a:Sm D H H1) (h:p ∈ D):Sm D H (L2.upd H1 p o):=fun b u e n=>by
 rw [upd_ne (show b ≠ p from fun z=>n (by rw [z]; exact h))]; exact a b u e n
theorem Sm.updN {D:List Addr} {H H1:Hp} {p:Addr} {o:HO} (a:Sm D H H1) (h:H p = none):Sm D H (L2.upd H1 p o):=fun b u e n=>by rw [upd_ne (ne_of_none e h)]; exact a b u e n
theorem Sm.at {D:List Addr} {H H':Hp} (h:Sm D H H') {a:Addr} (n:a ∉ D):KeepAt a H H':=fun o e=>h a o e n
theorem Sm.none {D:List Addr} {H H':Hp} (h:Sm D H H') {a:Addr} (n:a ∉ D) (e:H' a = Option.none):H a = Option.none:=by
 cases q:H a with
 | none=>rfl
 | some o=>rw [h a o q n] at e; cases e
theorem KeepAt.seqL {K:PySem.W.Frag} {H H':Hp} {a:Addr} {xs:List V} (e:KeepAt a H H') (h:SqL K H a xs):SqL K H' a xs:=by
 rcases h with (h | ⟨o,h⟩) | h
 ·exact .inl (.inl (e _ h))
 ·exact .inl (.inr ⟨o,e _ h⟩)
 ·exact .inr h
theorem KeepAt.seqT {K:PySem.W.Frag} {H H':Hp} {a:Addr} {xs:List V} (e:KeepAt a H H') (h:SqT K H a xs):SqT K H' a xs:=by
 rcases h with (h | ⟨o,h⟩) | h
 ·exact .inl (.inl (e _ h))
 ·exact .inl (.inr ⟨o,e _ h⟩)
 ·exact .inr h
noncomputable def Sqs (K:PySem.W.Frag) (H:Hp) (a:Addr) (xs:List V):Prop:=SqL K H a xs\/SqT K H a xs
theorem KeepAt.seq {K:PySem.W.Frag} {H H':Hp} {a:Addr} {xs:List V} (e:KeepAt a H H') (h:Sqs K H a xs):Sqs K H' a xs:=h.imp e.seqL e.seqT
structure AsSeq (J:It) (xs:List V) (a:Addr) (H0:Hp):Prop where
 go:∀ H i,KeepAt a H0 H->i < xs.length->J.go i H
 stop:∀ H,KeepAt a H0 H->J.stop xs.length H
 yld:∀ H i x H',KeepAt a H0 H->i < xs.length->J.yld i H x H'->H' = H/\xs[i]? = some x
theorem asL {K:PySem.W.Frag} {H0:Hp} {a:Addr} {xs:List V} (h:SqL K H0 a xs):AsSeq (Itl K a) xs a H0 :=
 ⟨fun H i k hi=>⟨xs,xs[i],k.seqL h,List.getElem?_eq_getElem hi⟩,fun H k=>⟨xs,k.seqL h,Nat.le_refl _⟩,fun H i x H' k hi ⟨e,y⟩=>⟨e,y xs (k.seqL h)⟩⟩
theorem asT {K:PySem.W.Frag} {H0:Hp} {a:Addr} {xs:List V} (h:SqT K H0 a xs):AsSeq (Itt K a) xs a H0 :=
 ⟨fun H i k hi=>⟨xs,xs[i],k.seqT h,List.getElem?_eq_getElem hi⟩,fun H k=>⟨xs,k.seqT h,Nat.le_refl _⟩,fun H i x H' k hi ⟨e,y⟩=>⟨e,y xs (k.seqT h)⟩⟩
theorem iseq_v {K:PySem.W.Frag} {H:Hp} {σ:St} {a:Addr} {xs:List V} {R:It->Hp->Prop} {i:Nat} (hv:σ[i]? = some (some (.ref a))) (h:Sqs K H a xs) (r:∀ J,AsSeq J xs a H->R J H):iSeq K (tVar i) σ H R:=by
 refine ⟨_,hv,a,rfl,?_⟩
 rcases h with h | h
 ·exact .inl ⟨⟨xs,h⟩,r _ (asL h)⟩
 ·exact .inr ⟨⟨xs,h⟩,r _ (asT h)⟩
theorem comp_seq {K:PySem.W.Frag} {o:Addr->HO} {cap:List (Option Nat)} {lp:Addr->It->St->Hp->(St->Hp->Prop)->Prop} {σ:St} {H:Hp} {Q:VK} {a:Addr} {xs:List V} {i:Nat} (hv:σ[i]? = some (some (.ref a))) (h:Sqs K H a xs)
  (r:∀ J,AsSeq J xs a H->∀ D,H D = none->lp D J (capS cap σ) (upd H D (o D)) fun _ H2=>Q (.ref D) H2):tComp (iSeq K (tVar i)) o cap lp σ H Q:=iseq_v hv h r
theorem for_J {J:It} {n:Nat} {g:TG} {tb:TS} {D:Ends} {σ:St} {H:Hp} (Pv:Nat->St->Hp->Prop) (h0:Pv 0 σ H) (hgo:∀ i σ H,i < n->Pv i σ H->J.go i H) (hst:∀ σ H,Pv n σ H->J.stop n H)
  (hs:∀ i σ H x H',i < n->Pv i σ H->J.yld i H x H'->g x σ H' fun σ2 H2=>tb { D with nx:=Pv (i + 1),ct:=Pv (i + 1),bk:=D.nx } σ2 H2) (hd:∀ σ H,Pv n σ H->D.nx σ H) :
  ∃ W:Nat->Nat->St->Hp->Prop,(∃ m,W 0 m σ H)/\∀ i m σ H,W i m σ H ->
   (J.stop i H/\D.nx σ H)\/(J.go i H/\∃ N:St->Hp->Prop,(∀ σ' H',N σ' H'->∃ m',m' < m/\W (i + 1) m' σ' H')/\∀ x H',J.yld i H x H'->g x σ H' fun σ2 H2=>tb { D with nx:=N,ct:=N,bk:=D.nx } σ2 H2):=by
 refine ⟨fun i m σ H=>m = n - i/\i<=n/\Pv i σ H,⟨n,by simp,Nat.zero_le _,h0⟩,?_⟩
 intro i m σ H zq1
 refine o0_3 zq1 fun zq2 hi p=>?_
 subst zq2
 by_cases hlt:i < n
 ·exact .inr ⟨hgo i σ H hlt p,Pv (i + 1),fun σ' H' p'=>⟨n - (i + 1),by omega,rfl,hlt,p'⟩,fun x H' y=>hs i σ H x H' hlt p y⟩
 ·have e:i = n:=by omega
  subst e
  exact .inl ⟨hst σ H p,hd σ H p⟩
theorem for_as {J:It} {xs:List V} {a:Addr} {H0:Hp} (as:AsSeq J xs a H0) {g:TG} {tb:TS} {D:Ends} {σ:St} {H:Hp} (Pv:Nat->St->Hp->Prop) (h0:Pv 0 σ H) (hk:∀ i σ H,i<=xs.length->Pv i σ H->KeepAt a H0 H)
  (hs:∀ i σ H x,xs[i]? = some x->Pv i σ H->g x σ H fun σ2 H2=>tb { D with nx:=Pv (i + 1),ct:=Pv (i + 1),bk:=D.nx } σ2 H2) (hd:∀ σ H,Pv xs.length σ H->D.nx σ H) :
  ∃ W:Nat->Nat->St->Hp->Prop,(∃ m,W 0 m σ H)/\∀ i m σ H,W i m σ H ->
   (J.stop i H/\D.nx σ H)\/(J.go i H/\∃ N:St->Hp->Prop,(∀ σ' H',N σ' H'->∃ m',m' < m/\W (i + 1) m' σ' H')/\∀ x H',J.yld i H x H'->g x σ H' fun σ2 H2=>tb { D with nx:=N,ct:=N,bk:=D.nx } σ2 H2) :=
 for_J (n:=xs.length) Pv h0 (fun i σ H hi p=>as.go H i (hk i σ H (Nat.le_of_lt hi) p) hi) (fun σ H p=>as.stop H (hk _ σ H (Nat.le_refl _) p)) (fun i σ H x H' hi p y=>by
  refine o0_2 (as.yld H i x H' (hk i σ H (Nat.le_of_lt hi) p) hi y) fun zq3 e=>?_
  subst zq3
  exact hs i σ _ x e p) hd
theorem loop_J {J:It} {n:Nat} {g:TG} {tc:TT} {em:TEm} {σ:St} {H:Hp} {Q:St->Hp->Prop} (Pv:Nat->St->Hp->Prop) (h0:Pv 0 σ H) (hgo:∀ i σ H,i < n->Pv i σ H->J.go i H) (hst:∀ σ H,Pv n σ H->J.stop n H)
  (hs:∀ i σ H x H' (N:St->Hp->Prop),i < n->Pv i σ H->J.yld i H x H'->(∀ σ' H',Pv (i + 1) σ' H'->N σ' H')->g x σ H' fun σ2 H2=>tc σ2 H2 fun b H3=>if b = true then em σ2 H3 N else N σ2 H3)
  (hd:∀ σ H,Pv n σ H->Q σ H):Loop g tc em J σ H Q:=by
 refine ⟨fun i m σ H=>m = n - i/\i<=n/\Pv i σ H,⟨n,by simp,Nat.zero_le _,h0⟩,?_⟩
 intro i m σ H zq4
 refine o0_3 zq4 fun zq5 hi p=>?_
 subst zq5
 by_cases hlt:i < n
 ·exact .inr ⟨hgo i σ H hlt p,fun x H' y=>hs i σ H x H' _ hlt p y fun σ3 H4 p'=>⟨n - (i + 1),by omega,rfl,hlt,p'⟩⟩
 ·have e:i = n:=by omega
  subst e
  exact .inl ⟨hst σ H p,hd σ H p⟩
theorem loop_as {J:It} {xs:List V} {a:Addr} {H0:Hp} (as:AsSeq J xs a H0) {g:TG} {tc:TT} {em:TEm} {σ:St} {H:Hp} {Q:St->Hp->Prop} (Pv:Nat->St->Hp->Prop) (h0:Pv 0 σ H) (hk:∀ i σ H,i<=xs.length->Pv i σ H->KeepAt a H0 H)
  (hs:∀ i σ H x (N:St->Hp->Prop),xs[i]? = some x->Pv i σ H->(∀ σ' H',Pv (i + 1) σ' H'->N σ' H')->g x σ H fun σ2 H2=>tc σ2 H2 fun b H3=>if b = true then em σ2 H3 N else N σ2 H3)
  (hd:∀ σ H,Pv xs.length σ H->Q σ H):Loop g tc em J σ H Q :=
 loop_J (n:=xs.length) Pv h0 (fun i σ H hi p=>as.go H i (hk i σ H (Nat.le_of_lt hi) p) hi) (fun σ H p=>as.stop H (hk _ σ H (Nat.le_refl _) p)) (fun i σ H x H' N hi p y hN=>by
  refine o0_2 (as.yld H i x H' (hk i σ H (Nat.le_of_lt hi) p) hi y) fun zq6 e=>?_
  subst zq6
  exact hs i σ _ x N e p hN) hd
theorem g_true {em:TEm} {N:St->Hp->Prop} {σ:St} {H:Hp} {i:Nat} {x:V} (h:em (σ.set i (some x)) H N):gName i x σ H fun σ2 H2=>tTrue σ2 H2 fun b H3=>if b = true then em σ2 H3 N else N σ2 H3:=by
 show if true = true then em (σ.set i (some x)) H N else N (σ.set i (some x)) H
 rw [if_pos rfl]
 exact h
end L2
namespace L2
open PySem PySem.Spec PyProof.Rows
section
variable {X:Cx} (K:PySem.W.Frag) (P:Program) (w:World) {tg:Expr}
theorem piL {l:Expr} {tl:TE} (hl:PE X l tl) (hK:X.K = K:=by rfl):PI X tg l (iList K tl):=by subst hK; exact pi_list hl
theorem piS {l:Expr} {tl:TE} (hl:PE X l tl) (hK:X.K = K:=by rfl):PI X tg l (iSeq K tl):=by subst hK; exact pi_seq hl
theorem piE {elts:List Expr} {kk:Nat} {tp:Pos} {a:Expr} {ta:TA} {p pos:Pos} (hm:X.mg "enumerate" = none) (ha:PA X [a] ta) (hg:Gl X "enumerate":=by rfl) (hs:starEach [a] X.env = [(false,eval a X.env)]:=by rfl) (hK:X.K = K:=by rfl) :
  PI X (.Tuple elts kk tp) (.Call (.Name "enumerate" p) [a] [] pos) (iEnum K ta):=by subst hK; exact pi_enum hg hm bt_enumerate ha hs
theorem piR1 {a:Expr} {ta:TA} {p pos:Pos} (hm:X.mg "range" = none) (ha:PA X [a] ta) (hg:Gl X "range":=by rfl) (hs:starEach [a] X.env = [(false,eval a X.env)]:=by rfl):PI X tg (.Call (.Name "range" p) [a] [] pos) (iRng1 ta):=pi_range1 hg hm ha hs
theorem pgT {es:List Expr} {k:Nat} {t:TGs} {n:Nat} {pos:Pos} (h:PGs X es t) (hc:X.calm = true:=by rfl) (hn:(assignEach es X.env).length = n:=by rfl) (hst:(assignEach es X.env).findIdx? (·.1) = none:=by rfl) (hK:X.K = K:=by rfl):PG X (.Tuple es k pos) (gTup K n t):=by subst hK; exact pg_tup hc h hn hst
theorem peF {e:Expr} {ta:TE} {f:Str} {pos:Pos} (he:PE X e ta) (hb:attributeBase e f X.env (eval e X.env) = eval e X.env:=by rfl) (hK:X.K = K:=by rfl):PE X (.Attribute e f pos) (tFld K ta f):=by subst hK; exact pe_fld he hb
theorem psF {o value:Expr} {ta tv:TE} {f:Str} {pos pos':Pos} (ha:PE X o ta) (hv:PE X value tv) (hs:swapsWith value (some (.Attribute o f pos')) pos.line X.env = pure false:=by rfl) (hK:X.K = K:=by rfl):PS X (.Assign [.Attribute o f pos'] value pos) (sFld K ta tv f):=by subst hK; exact ps_fld ha hv hs
theorem cl_len (hK:X.K = K:=by rfl):CallR X (.builtin "len") (fun xs H Q=>∃ p ys,xs = [.ref p]/\(SqL K H p ys\/SqT K H p ys)/\Q (.int ys.length) H):=by subst hK; exact call_len_seq
theorem cl_list (hK:X.K = K:=by rfl):CallR X (.type "list") (fun xs H Q=>∃ p ys,xs = [.ref p]/\(SqL K H p ys\/SqT K H p ys)/\∀ l,H l = none->Q (.ref l) (upd H l (.lst ys))):=by subst hK; exact call_list_of
theorem cl_tuple (hK:X.K = K:=by rfl):CallR X (.type "tuple") (fun xs H Q=>∃ p ys,xs = [.ref p]/\((SqL K H p ys/\∀ l,H l = none->Q (.ref l) (upd H l (.tup ys)))\/(SqT K H p ys/\Q (.ref p) H))):=by subst hK; exact call_tuple_of
theorem cl_all (hc:X.calm = true:=by rfl) (hK:X.K = K:=by rfl):CallR X (.builtin "all") (fun xs H Q=>∃ (p:Addr) (bs:List Bool),xs = [.ref p]/\SqL K H p (bs.map V.bl)/\Q (.bl (bs.all id)) H):=by subst hK; exact call_all hc
theorem cl_sortS (hK:X.K = K:=by rfl):CallR X (.builtin "sorted") (fun xs H Q=>∃ (p:Addr) (ss:List Str),xs = [.ref p]/\SqL K H p (ss.map V.str)/\∀ (l:Addr) (ss':List Str),H l = none->ss'.Perm ss->ss'.Pairwise leS->Q (.ref l) (upd H l (.lst (ss'.map V.str)))):=by subst hK; exact call_sortedS
theorem cl_sortP (hK:X.K = K:=by rfl):CallR X (.builtin "sorted") (fun xs H Q=>∃ (p:Addr) (ps:List PA2),xs = [.ref p]/\SqL K H p (ps.map fun q=>V.ref q.1)/\(∀ q ∈ ps,PairIn H q)/\∀ (l:Addr) (ps':List PA2),H l = none->ps'.Perm ps->ps'.Pairwise leP->Q (.ref l) (upd H l (.lst (ps'.map fun q=>V.ref q.1)))):=by subst hK; exact call_sortedP
theorem cl_sortW (hc:X.calm = true:=by rfl) (hw:X.w = w:=by rfl):CallR X (.builtin "sorted") (fun xs H Q=>∃ (p:Addr) (ss:List Str),xs = [.ref p]/\H p = some (SetW w p ss)/\∀ (l:Addr) (ss':List Str),H l = none->ss'.Perm ss->ss'.Pairwise leS->Q (.ref l) (upd H l (.lst (ss'.map V.str)))):=by subst hw; exact call_sortedW hc
theorem cl_isin (hK:X.K = K:=by rfl):CallR X (.builtin "isinstance") (fun xs H Q=>∃ x n t b,xs = [x,.ty n]/\TyOf K H x t/\PySem.W.kitOne K t (.type n) = some b/\Q (.bl b) H):=by subst hK; exact call_isin
theorem cl_set0 (hP:X.prog = P:=by rfl) (hw:X.w = w:=by rfl):CallR X (.type "set") (fun xs H Q=>xs = []/\∀ p,H p = none->Q (.ref p) (upd H p (SetS P w p []))):=by subst hP; subst hw; exact call_set0
theorem cl_set0T (hP:X.prog = P:=by rfl) (hw:X.w = w:=by rfl):CallR X (.type "set") (fun xs H Q=>xs = []/\∀ p,H p = none->Q (.ref p) (upd H p (SetT P w p []))):=by subst hP; subst hw; exact call_set0T
theorem o_inD (hu:X.A.units + 64 < cLine) (hK:X.K = K:=by rfl):OpR X (compareOp .In) (rInD K false):=by subst hK; exact op_inD hu
theorem o_notInD (hu:X.A.units + 64 < cLine) (hK:X.K = K:=by rfl):OpR X (compareOp .NotIn) (rInD K true):=by subst hK; exact op_notInD hu
theorem o_eqD (hu:X.A.units + 64 < cLine) (hK:X.K = K:=by rfl):OpR X (compareOp .Eq) (rEqD K):=by subst hK; exact op_eqD hu
theorem o_neD (hu:X.A.units + 64 < cLine) (hK:X.K = K:=by rfl):OpR X (compareOp .NotEq) (rNeD K):=by subst hK; exact op_neD hu
theorem o_inL (hK:X.K = K:=by rfl):OpR X (compareOp .In) (rIn K false):=by subst hK; exact op_in_seq
theorem o_notInL (hK:X.K = K:=by rfl):OpR X (compareOp .NotIn) (rIn K true):=by subst hK; exact op_notIn_seq
theorem o_inS (hP:X.prog = P:=by rfl) (hw:X.w = w:=by rfl):OpR X (compareOp .In) (rInS P w false):=by subst hP; subst hw; exact op_in_set
theorem o_inT (hu:X.A.units + 1 < cLine) (hP:X.prog = P:=by rfl) (hw:X.w = w:=by rfl):OpR X (compareOp .In) (rInT P w):=by subst hP; subst hw; exact op_in_sett hu
theorem m_addS (hP:X.prog = P:=by rfl) (hw:X.w = w:=by rfl):MtM X "set.add" (rAddS P w):=by subst hP; subst hw; exact mt_add
theorem m_addT (hu:X.A.units + 1 < cLine) (hP:X.prog = P:=by rfl) (hw:X.w = w:=by rfl):MtM X "set.add" (rAddT P w):=by subst hP; subst hw; exact mt_addT hu
theorem peSadd {o e:Expr} {to:TE} {t:TA} {apos cpos:Pos} {r:V->List V->Hp->VK->Prop} (hm:MtM X "set.add" r) (ho:PE X o to) (ha:PA X [e] t)
  (hbase:attributeBase o "add" X.env (eval o X.env) = eval o X.env:=by rfl)
  (hfew:((backTo cpos (starEach [e] X.env)).all (fun x=>!x.1) && (backToKw cpos (keywordEach [] X.env)).all (fun x=>x.1.isSome)
   && decide ([e].length + ([]:List Keyword).length + (if ([]:List Keyword).isEmpty then 0 else 1) < 30)) = true:=by rfl)
  (hline:(apos.endLine == cpos.line) = true:=by rfl) (hs:starEach [e] X.env = [(false,eval e X.env)]:=by rfl) (hP:X.prog = P:=by rfl) (hw:X.w = w:=by rfl) :
  PE X (.Call (.Attribute o "add" apos) [e] [] cpos) (tBMS P w r to t):=by subst hP; subst hw; exact pe_sadd hm ho ha hbase hfew hline hs
theorem ixL (hK:X.K = K:=by rfl):IxR X (rIxL K):=by subst hK; exact ix_list
theorem ixT (hK:X.K = K:=by rfl):IxR X (rIxT K):=by subst hK; exact ix_tup
theorem slL (hK:X.K = K:=by rfl):SlR X (rSlL K):=by subst hK; exact sl_list
theorem m_indexS (hK:X.K = K:=by rfl):MtM X "list.index" (rIndexS K):=by subst hK; exact mt_indexS
theorem peBM {T id:String} {name:Str} {o e:Expr} {es:List Expr} {to:TE} {t:TA} {apos cpos:Pos} {r:V->List V->Hp->VK->Prop} (pa:PlainAttrs T) (slot:Slot T name id) (hty:typeOf (.builtin id) = pure (.type "method_descriptor")) (hm:MtM X id r) (ho:PE X o to) (ha:PA X (e :: es) t)
  (hbase:attributeBase o name X.env (eval o X.env) = eval o X.env:=by rfl)
  (hfew:((backTo cpos (starEach (e :: es) X.env)).all (fun x=>!x.1) && (backToKw cpos (keywordEach [] X.env)).all (fun x=>x.1.isSome)
   && decide ((e :: es).length + ([]:List Keyword).length + (if ([]:List Keyword).isEmpty then 0 else 1) < 30)) = true:=by rfl)
  (hline:(apos.endLine == cpos.line) = true:=by rfl) (hs:starEach (e :: es) X.env = (false,eval e X.env) :: starEach es X.env:=by rfl) (hplain:(backTo cpos (starEach es X.env)).any (·.1) = false:=by rfl) (hK:X.K = K:=by rfl) :
  PE X (.Call (.Attribute o name apos) (e :: es) [] cpos) (tBM K T r to t):=by subst hK; exact pe_bm pa slot hty hm ho ha hbase hfew hline hs hplain
theorem peBM0 {T id:String} {name:Str} {o:Expr} {to:TE} {apos cpos:Pos} {r:V->List V->Hp->VK->Prop} (pa:PlainAttrs T) (slot:Slot T name id) (hty:typeOf (.builtin id) = pure (.type "method_descriptor")) (hm:MtM X id r) (ho:PE X o to)
  (hbase:attributeBase o name X.env (eval o X.env) = eval o X.env:=by rfl) (hline:(apos.endLine == cpos.line) = true:=by rfl) (hK:X.K = K:=by rfl):PE X (.Call (.Attribute o name apos) [] [] cpos) (tBM0 K T r to):=by subst hK; exact pe_bm0 pa slot hty hm ho hbase hline
end
section
variable {X:Cx} {tg iter elt tg2 iter2:Expr} {g g2:TG} {tc tc2:TT} {te:TE} {ifs ifs2:List Expr} {scope:Scope} {cl:List (Str × Addr)} {N':List Str} {cap:List (Option Nat)} {pos:Pos} {wi wi2:TI}
theorem peSC2 (w:World) (S:CScope X scope cl N' cap) (hi:PI X tg iter wi)
  (hb:∀ (pins:List (Addr × Obj)) (ex:List Addr) (s3:Shared) (H3:Hp),PG (cxC X scope cl N' pins ex s3 H3) tg g/\PTs (cxC X scope cl N' pins ex s3 H3) ifs tc/\PI (cxC X scope cl N' pins ex s3 H3) tg2 iter2 wi2 /\
   PG (cxC X scope cl N' pins ex s3 H3) tg2 g2/\PTs (cxC X scope cl N' pins ex s3 H3) ifs2 tc2/\PE (cxC X scope cl N' pins ex s3 H3) elt te)
  (hc:X.calm = true:=by rfl) (hs:∀ x,foldedSetIterable iter X.env x = pure x:=by intro _; rfl) (hs2:∀ env x,foldedSetIterable iter2 env x = pure x:=by intro _ _; rfl) (hw:X.w = w:=by rfl) :
  PE X (.SetComp elt [⟨tg,iter,ifs,0⟩,⟨tg2,iter2,ifs2,0⟩] scope pos) (tComp wi (fun D=>SetW w D []) cap fun D J σ H Q=>Loop g tc (emIn wi2 fun J σ H Q=>Loop g2 tc2 (emSetW w D te) J σ H Q) J σ H Q):=by
 subst hw
 exact pe_sc2W S hc hi hb hs hs2
end
end L2
namespace L2
open PySem PySem.Spec PyProof.Rows
theorem bt_range:bootBuiltins "range" = some (.type "range"):=by decide +kernel
theorem vals_upto:∀ (us:List Value) (b:Nat),(∀ j v,us[j]? = some v->∃ t,v = Value.int ((b + j:Nat):Int) t)->Vals ((List.range' b us.length).map fun k:Nat=>V.int (k:Int)) us
 | [],_,_=>.nil
 | u :: r,b,h=>by
  refine o1_1 (h 0 u rfl) fun t zq1=>?_
  subst zq1
  refine .cons ⟨t,rfl⟩ (vals_upto r (b + 1) fun j v hv=>?_)
  obtain ⟨t,e⟩:=h (j + 1) v hv
  exact ⟨t,by rw [e]; congr 2; lia⟩
section
variable {X:Cx}
theorem call_range1:CallR X (.type "range") (fun xs H Q=>∃ j:Int,xs = [.int j]/\∀ l,H l = none->Q (.ref l) (upd H l (.rng 0 j))):=by
 intro pins s σ H xs us Q I r h
 refine o1_2 h fun j zq2 q=>?_
 try clear h
 subst zq2
 obtain ⟨u,zq3,t,zq4⟩:=(vals1 r)
 subst zq3
 subst zq4
 refine call_range_1 ?_
 exact ⟨.ref s.heap.objs.size,_,I.laid (t':=s.toks + 1 + 1) (fun b o e=>Heap.get?_push_of_some _ e) (by lia) (show ObjOk X.prog X.w _ _ _ (.rng 0 j) from ⟨_,_,_,Heap.get?_push_size _ rfl⟩),rfl,q _ (I.hok.fresh (Nat.le_refl _))⟩
theorem call_listR (hc:X.calm = true:=by rfl):CallR X (.type "list") (fun xs H Q=>∃ (p:Addr) (n:Nat),xs = [.ref p]/\H p = some (.rng 0 (n:Int))/\n<=2 ^ 20/\∀ l,H l = none->Q (.ref l) (upd H l (.lst ((List.range n).map fun k:Nat=>V.int (k:Int))))):=by
 intro pins s σ H xs us Q I r h
 refine o2_4 h fun p n zq5 hp hn q=>?_
 try clear h
 subst zq5
 refine o1_2 (vals1 r) fun u zq6 ru=>?_
 subst zq6
 cases ru
 refine o3_1 (I.hok _ _ hp) fun t u v e=>?_
 refine call_list_range (n:=n) (I.ok.hd hc) e ?_ ?_ (by lia) fun h' tk acc' c' kp e' hacc=>?_
 ·exact small_one (by lia) (by lia) (by lia) (by lia)
 ·rw [rangeSize_one]; split <;> lia
 ·have hl:acc'.toList.length = n:=by simp [hacc.1]
  have hv:Vals ((List.range n).map fun k:Nat=>V.int (k:Int)) acc'.toList:=by
   have:=vals_upto acc'.toList 0 fun j v hv=>by
    refine o1_1 (hacc.2 j v (by simpa using hv)) fun t e=>?_
    exact ⟨t,by rw [e]; congr 1; lia⟩
   rw [hl,<-List.range_eq_range'] at this
   exact this
  refine ⟨.ref s.heap.objs.size,_,I.laid (t':=tk) kp (Nat.le_refl _) (show ObjOk X.prog X.w _ h' _ (.lst _) from ⟨by rw [List.length_map,List.length_range,sizeLine_eq]; lia,acc'.toList,c',hv,by simpa using e'⟩),rfl,q _ (I.hok.fresh (Nat.le_refl _))⟩
end
end L2
namespace L2
open PySem PySem.Spec PyProof.Rows
section
variable {prog:Program} {w:World} {A:Around} {E:Value->Shared->Prop} {s:Shared}
theorem collect_tup {t:Addr} {vs:List Value} {Q:List Value->Shared->Prop} (ht:IsTup s.heap t vs.toArray) (hsz:vs.length<=sizeLine) (h:∀ h',(∀ b u,s.heap.get? b = some u->h'.get? b = some u)->s.heap.objs.size<=h'.objs.size->Q vs { s with heap:=h' }):wpAny (model prog w) A (collect (.ref t)) Q E s:=by
 obtain ⟨o,ho,hc,n,hd⟩:=ht
 unfold collect
 refine wpAny_bind (wpAny_runValue (codeAny_builtin F.entry_proto_collect ?_))
 rw [show A.under _ = A.in1 from Around.under_plainId F.plain_proto_collect _]
 show wpAny _ A.in1 (newList [] >>= fun l=>again (.builtin "list.__iadd__" ⟨[l,.ref t],[]⟩)) _ _ s
 refine wpAny_bind (wpAny_newObj_type (wpAny_pure ⟨plainId_quiet F.plain_list_iadd _,codeAny_builtin F.entry_list_iadd ?_⟩))
 rw [show A.under _ = A.in1 from Around.under_plainId F.plain_list_iadd _]
 show wpAny _ A.in1 (Builtin.List.listExtendWith (.ref s.heap.objs.size) (.ref t) (.ref s.heap.objs.size)) _ _ _
 have g1:(s.heap.push { cls:=.type "list",data:=.seq ([]:List Value).toArray }).get? s.heap.objs.size = some { cls:=.type "list",data:=.seq #[] 0 }:=Heap.get?_push_size _ rfl
 have g2:=Heap.get?_update_self (Obj.mapSeq (· ++ vs.toArray)) g1 rfl
 have fin:wpAny (model prog w) A (match Value.ref s.heap.objs.size with
   | Value.ref a=>do
    match (<-load a).data with
     | Data.seq xs _=>pure xs.toList
     | _=>unsupported "internal:collect"
   | _=>unsupported "internal:collect") Q E { s with heap:=(s.heap.push { cls:=.type "list",data:=.seq ([]:List Value).toArray }).update s.heap.objs.size (Obj.mapSeq (· ++ vs.toArray)) }:=by
  show wpAny _ A (load s.heap.objs.size >>= _) _ _ _
  refine wpAny_bind (wpAny_load g2 (wpAny_pure ?_))
  show Q ((#[]:Array Value) ++ vs.toArray).toList _
  rw [show ((#[]:Array Value) ++ vs.toArray).toList = vs from by simp]
  exact h _ (fun b u hb=>(Heap.get?_update_other _ _ (Nat.ne_of_gt (Heap.lt_size hb))).trans (Heap.get?_push_of_some _ hb)) (by rw [Heap.size_update,Heap.size_push]; lia)
 refine wpAny_mono (wpAny_extend_seq (A:=A) (hsz:=by rw [List.size_toArray]; exact hsz) (R:=fun r s'=>r = .ok (.ret (.ref s.heap.objs.size))/\s' = { s with heap:=(s.heap.push { cls:=.type "list",data:=.seq ([]:List Value).toArray }).update s.heap.objs.size (Obj.mapSeq (· ++ vs.toArray)) })
  (s:={ s with heap:=s.heap.push { cls:=.type "list",data:=.seq ([]:List Value).toArray } }) _ t _ 0 (.inr rfl) g1 (Heap.get?_push_of_some _ ho) hc hd ⟨rfl,rfl⟩) (fun f s' z=>?_) (fun e s' z=>absurd z.1 (by simp))
 match f,z with
 | .done f,⟨e1,e2⟩=>subst e2; cases e1; exact fin
 | .again c,z=>exact ⟨z.1,codeAny_mono z.2 fun r s2 hr=>by obtain ⟨rfl,rfl⟩:=hr; exact fin⟩
end
section
variable {X:Cx}
theorem call_sortedQ:CallR X (.builtin "sorted") (fun xs H Q=>∃ (p:Addr) (ss:List Str),xs = [.ref p]/\Sqs X.K H p (ss.map V.str)/\∀ (l:Addr) (ss':List Str),H l = none->ss'.Perm ss->ss'.Pairwise leS->Q (.ref l) (upd H l (.lst (ss'.map V.str)))):=by
 intro pins s σ H xs us Q I r h
 refine o2_3 h fun p ss zq1 hq q=>?_
 try clear h
 subst zq1
 rcases hq with hq | hq
 ·exact call_sortedS pins s σ H _ us Q I r ⟨p,ss,rfl,hq,q⟩
 refine o1_2 (vals1 r) fun u zq2 ru=>?_
 subst zq2
 cases ru
 refine o1_3 (I.tuple hq) fun its rv zq3 hz=>?_
 obtain ⟨o,ho,hc,n,hd⟩:=zq3
 have hS:=strsAre_of rv
 have hl:=rv.length
 refine TS.sorted_gen (collect_tup ⟨o,ho,hc,n,hd⟩ (by lia) fun h0 k0 hsz=>?_)
 refine ⟨rfl,by lia,strKind,oneType',fun s2 _=>TS.keys_strs hS,fun out h' e ho k hg=>?_⟩
 refine o0_2 ho fun hp hs=>?_
 try clear ho
 have hm:∀ v ∈ out.toList,∃ x t,v = .str x t:=fun v hv=>hS.all v (hp.mem_iff.mp hv)
 have hv:Vals ((out.toList.map strOf).map V.str) out.toList:=by
  have:∀ us:List Value,(∀ v ∈ us,∃ x t,v = .str x t)->Vals ((us.map strOf).map V.str) us:=by
   intro us
   induction us with
   | nil=>exact fun _=>.nil
   | cons v r ih =>
    intro h
    refine o2_1 (h v (List.mem_cons_self ..)) fun x t zq4=>?_
    subst zq4
    exact .cons ⟨t,rfl⟩ (ih fun u hu=>h u (List.mem_cons_of_mem _ hu))
  exact this _ hm
 have hperm:(out.toList.map strOf).Perm ss:=by
  have:=hp.map strOf
  rwa [hS.strs] at this
 have hpw:(out.toList.map strOf).Pairwise leS:=by
  rw [List.pairwise_map]
  refine (List.Pairwise.and_mem.mp hs).imp fun {u v} ⟨hu,hv',q⟩=>?_
  refine o2_1 (hm u hu) fun x t zq5=>?_
  subst zq5
  refine o2_1 (hm v hv') fun y t' zq6=>?_
  subst zq6
  have q':decide (y.cps.toList < x.cps.toList) = false:=q
  exact of_decide_eq_false q'
 have hk0:∀ b o,s.heap.get? b = some o->h'.get? b = some o:=fun b o eb=>k b o (k0 b o eb)
 refine ⟨.ref h0.objs.size,upd H h0.objs.size (.lst ((out.toList.map strOf).map V.str)),?_,rfl,q _ _ (I.hok.fresh hsz) hperm hpw⟩
 refine I.laid (t':=s.toks) hk0 hsz ⟨?_,out.toList,e,hv,by simpa using hg⟩
 rw [List.length_map,List.length_map,hp.length_eq]
 lia
variable (K:PySem.W.Frag)
theorem cl_sortQ (hK:X.K = K:=by rfl):CallR X (.builtin "sorted") (fun xs H Q=>∃ (p:Addr) (ss:List Str),xs = [.ref p]/\Sqs K H p (ss.map V.str)/\∀ (l:Addr) (ss':List Str),H l = none->ss'.Perm ss->ss'.Pairwise leS->Q (.ref l) (upd H l (.lst (ss'.map V.str)))):=by subst hK; exact call_sortedQ
end
end L2
namespace Sw
open PySem L2
noncomputable def top (i:Nat):Stmt:=PySem.Challenge.pw_strikeweave_k13_whole_and_outright.main.body.getD i (.Pass ⟨0,0,0,0⟩)
noncomputable abbrev s_is_quiet:Stmt:=top 1
noncomputable abbrev s_strikes_back:Stmt:=top 2
noncomputable abbrev s_stands:Stmt:=top 3
noncomputable abbrev s_kept_by:Stmt:=top 4
noncomputable abbrev s_is_whole:Stmt:=top 5
noncomputable abbrev s_is_outright:Stmt:=top 6
noncomputable abbrev s_struck_by_any:Stmt:=top 7
noncomputable abbrev s_strikers_of_any:Stmt:=top 8
noncomputable abbrev s_is_name:Stmt:=top 18
noncomputable abbrev s_check_names:Stmt:=top 19
noncomputable abbrev s_check_strikes:Stmt:=top 20
noncomputable abbrev s_is_strike:Stmt:=top 21
noncomputable abbrev s_law_mix:Stmt:=top 23
noncomputable abbrev s_law_left:Stmt:=top 24
noncomputable abbrev s_law_pick:Stmt:=top 25
noncomputable abbrev s_law_names:Stmt:=top 26
noncomputable abbrev s_law_size:Stmt:=top 27
noncomputable abbrev s_law_strikes:Stmt:=top 28
noncomputable abbrev s_law_masks:Stmt:=top 29
noncomputable abbrev s_law_set_of:Stmt:=top 30
noncomputable abbrev s_law_hit:Stmt:=top 31
noncomputable abbrev s_law_kept:Stmt:=top 32
noncomputable abbrev s_law_is_quiet:Stmt:=top 33
noncomputable abbrev s_law_is_whole:Stmt:=top 34
noncomputable abbrev s_law_is_outright:Stmt:=top 35
noncomputable abbrev s_law_some:Stmt:=top 36
noncomputable abbrev s_law_many_names:Stmt:=top 37
noncomputable abbrev s_law_few_strikes:Stmt:=top 38
noncomputable abbrev s_law_drawn:Stmt:=top 39
noncomputable abbrev s_law_handed:Stmt:=top 40
noncomputable abbrev s_law_says:Stmt:=top 41
noncomputable abbrev s_law_near:Stmt:=top 42
noncomputable abbrev s_law:Stmt:=top 43
noncomputable abbrev s_Web___init__:Stmt:=inClass (top 17) 0
noncomputable abbrev s_Web_all_names:Stmt:=inClass (top 17) 1
noncomputable abbrev s_Web_all_strikes:Stmt:=inClass (top 17) 2
noncomputable abbrev s_Web_strikers:Stmt:=inClass (top 17) 3
noncomputable abbrev s_Web_struck:Stmt:=inClass (top 17) 4
noncomputable abbrev s_Web_check_has:Stmt:=inClass (top 17) 5
structure Tx (K:PySem.W.Frag) (mg:Str->Option Value) where
 is_quiet:Fn K mg "is_quiet" s_is_quiet ["web", "some"]
 strikes_back:Fn K mg "strikes_back" s_strikes_back ["web", "some"]
 stands:Fn K mg "stands" s_stands ["web", "some"]
 kept_by:Fn K mg "kept_by" s_kept_by ["web", "some"]
 is_whole:Fn K mg "is_whole" s_is_whole ["web", "some"]
 is_outright:Fn K mg "is_outright" s_is_outright ["web", "some"]
 struck_by_any:Fn K mg "struck_by_any" s_struck_by_any ["web", "some"]
 strikers_of_any:Fn K mg "strikers_of_any" s_strikers_of_any ["web", "some"]
 is_name:Fn K mg "is_name" s_is_name ["thing"]
 check_names:Fn K mg "check_names" s_check_names ["names"]
 check_strikes:Fn K mg "check_strikes" s_check_strikes ["names", "strikes"]
 is_strike:Fn K mg "is_strike" s_is_strike ["names", "thing"]
 law_mix:Fn K mg "_law_mix" s_law_mix ["_law_cell", "_law_k"]
 law_left:Fn K mg "_law_left" s_law_left ["_law_script", "_law_k"]
 law_pick:Fn K mg "_law_pick" s_law_pick ["_law_left_here", "_law_many"]
 law_names:Fn K mg "_law_names" s_law_names ["_law_left_here", "_law_many"]
 law_size:Fn K mg "_law_size" s_law_size ["_law_left_here"]
 law_strikes:Fn K mg "_law_strikes" s_law_strikes ["_law_left_here", "_law_names_here"]
 law_masks:Fn K mg "_law_masks" s_law_masks ["_law_names_here", "_law_strikes_here"]
 law_set_of:Fn K mg "_law_set_of" s_law_set_of ["_law_view", "_law_mask"]
 law_hit:Fn K mg "_law_hit" s_law_hit ["_law_view", "_law_mask"]
 law_kept:Fn K mg "_law_kept" s_law_kept ["_law_view", "_law_mask"]
 law_is_quiet:Fn K mg "_law_is_quiet" s_law_is_quiet ["_law_view", "_law_mask"]
 law_is_whole:Fn K mg "_law_is_whole" s_law_is_whole ["_law_view", "_law_mask"]
 law_is_outright:Fn K mg "_law_is_outright" s_law_is_outright ["_law_view", "_law_mask"]
 law_some:Fn K mg "_law_some" s_law_some ["_law_left_here", "_law_view"]
 law_many_names:Fn K mg "_law_many_names" s_law_many_names ["_law_left_here", "_law_many"]
 law_few_strikes:Fn K mg "_law_few_strikes" s_law_few_strikes ["_law_left_here", "_law_names_here"]
 law_drawn:Fn K mg "_law_drawn" s_law_drawn ["_law_script", "_law_k"]
 law_handed:Fn K mg "_law_handed" s_law_handed ["_law_left_here", "_law_some_here"]
 law_says:Fn K mg "_law_says" s_law_says ["_law_found", "_law_due"]
 law_near:Fn K mg "_law_near" s_law_near ["_law_left_here", "_law_names_here", "_law_strikes_here"]
 CWeb:Addr
 clWeb:Cls K CWeb
 mgWeb:mg "Web" = some (.ref CWeb)
 nWeb_names:NoAttr K CWeb "names"
 nWeb_strikes:NoAttr K CWeb "strikes"
 nWeb_strikers_by_name:NoAttr K CWeb "strikers_by_name"
 nWeb_struck_by_name:NoAttr K CWeb "struck_by_name"
 fWeb___init__:Addr
 fdWeb___init__:FuncData
 FWeb___init__:Fun K "__init__" "Web.__init__" s_Web___init__ fWeb___init__ fdWeb___init__
 bWeb___init__:Binds K fdWeb___init__ ["self", "names", "strikes"] []
 mkWeb:Mk K CWeb fWeb___init__
 mWeb_all_names:Mt K CWeb "all_names" "Web.all_names" s_Web_all_names ["self"]
 mWeb_all_strikes:Mt K CWeb "all_strikes" "Web.all_strikes" s_Web_all_strikes ["self"]
 mWeb_strikers:Mt K CWeb "strikers" "Web.strikers" s_Web_strikers ["self", "name"]
 mWeb_struck:Mt K CWeb "struck" "Web.struck" s_Web_struck ["self", "name"]
 mWeb_check_has:Mt K CWeb "check_has" "Web.check_has" s_Web_check_has ["self", "name"]
 gLETTERS:∃ t,mg "LETTERS" = some (.str "abcdefghijklmnopqrstuvwxyz" t)
 gLONGEST_NAME:∃ t,mg "LONGEST_NAME" = some (.int 8 t)
 b_len:mg "len" = none
 b_range:mg "range" = none
 b_enumerate:mg "enumerate" = none
 b_min:mg "min" = none
 b_max:mg "max" = none
 b_abs:mg "abs" = none
 b_sorted:mg "sorted" = none
 b_int:mg "int" = none
 b_str:mg "str" = none
 b_bool:mg "bool" = none
 b_list:mg "list" = none
 b_tuple:mg "tuple" = none
 b_set:mg "set" = none
 b_isinstance:mg "isinstance" = none
 b_all:mg "all" = none
end Sw
namespace L2
open PySem
theorem for_asG {J:It} {xs:List V} {a:Addr} {H0:Hp} (as:AsSeq J xs a H0) {g:TG} {tb:TS} {D:Ends} {σ:St} {H:Hp} (Pv:Nat->St->Hp->Prop) (h0:Pv 0 σ H) (hk:∀ i σ H,i<=xs.length->Pv i σ H->KeepAt a H0 H)
  (hs:∀ i σ H x,xs[i]? = some x->Pv i σ H->∀ D':Ends,(∀ σ' H',Pv (i + 1) σ' H'->D'.nx σ' H')->D'.rt = D.rt->g x σ H fun σ2 H2=>tb D' σ2 H2) (hd:∀ σ H,Pv xs.length σ H->D.nx σ H) :
  ∃ W:Nat->Nat->St->Hp->Prop,(∃ m,W 0 m σ H)/\∀ i m σ H,W i m σ H ->
   (J.stop i H/\D.nx σ H)\/(J.go i H/\∃ N:St->Hp->Prop,(∀ σ' H',N σ' H'->∃ m',m' < m/\W (i + 1) m' σ' H')/\∀ x H',J.yld i H x H'->g x σ H' fun σ2 H2=>tb { D with nx:=N,ct:=N,bk:=D.nx } σ2 H2) :=
 for_as as Pv h0 hk (fun i σ H x hx hp=>hs i σ H x hx hp _ (fun _ _ z=>z) rfl) hd
theorem for_rangeG {lo:Int} {n:Nat} {g:TG} {tb:TS} {D:Ends} {σ:St} {H:Hp} (Pv:Nat->St->Hp->Prop) (h0:Pv 0 σ H)
  (hs:∀ i σ H,i < n->Pv i σ H->∀ D':Ends,(∀ σ' H',Pv (i + 1) σ' H'->D'.nx σ' H')->D'.rt = D.rt->g (.int (lo + i)) σ H fun σ2 H2=>tb D' σ2 H2) (hd:∀ σ H,Pv n σ H->D.nx σ H) :
  ∃ W:Nat->Nat->St->Hp->Prop,(∃ m,W 0 m σ H)/\∀ i m σ H,W i m σ H ->
   ((Itr lo n).stop i H/\D.nx σ H)\/((Itr lo n).go i H/\∃ N:St->Hp->Prop,(∀ σ' H',N σ' H'->∃ m',m' < m/\W (i + 1) m' σ' H')/\∀ x H',(Itr lo n).yld i H x H'->g x σ H' fun σ2 H2=>tb { D with nx:=N,ct:=N,bk:=D.nx } σ2 H2) :=
 for_range Pv h0 (fun i σ H hi hp=>hs i σ H hi hp _ (fun _ _ z=>z) rfl) hd
theorem ex1 {α:Type} {A C:α->Prop} {a:α} (e:A a) (h:C a):∃ v,A v/\C v:=⟨a,e,h⟩
theorem ex3_6 {α0 α1 α2:Type} {A0 A1 A2 A3 A4 A5:α0->α1->α2->Prop} {a:α0} {b:α1} {c:α2} (h0:A0 a b c) (h1:A1 a b c) (h2:A2 a b c) (h3:A3 a b c) (h4:A4 a b c) (h5:A5 a b c):∃ a b c,A0 a b c/\A1 a b c/\A2 a b c/\A3 a b c/\A4 a b c/\A5 a b c:=⟨a,b,c,h0,h1,h2,h3,h4,h5⟩
theorem ex7_4 {α0 α1 α2 α3 α4 α5 α6:Type} {A0 A1 A2 A3:α0->α1->α2->α3->α4->α5->α6->Prop} {a:α0} {b:α1} {c:α2} {d:α3} {e:α4} {f:α5} {g:α6} (h0:A0 a b c d e f g) (h1:A1 a b c d e f g) (h2:A2 a b c d e f g) (h3:A3 a b c d e f g):∃ a b c d e f g,A0 a b c d e f g/\A1 a b c d e f g/\A2 a b c d e f g/\A3 a b c d e f g:=⟨a,b,c,d,e,f,g,h0,h1,h2,h3⟩
theorem ex4_6 {α0 α1 α2 α3:Type} {A0 A1 A2 A3 A4 A5:α0->α1->α2->α3->Prop} {a:α0} {b:α1} {c:α2} {d:α3} (h0:A0 a b c d) (h1:A1 a b c d) (h2:A2 a b c d) (h3:A3 a b c d) (h4:A4 a b c d) (h5:A5 a b c d):∃ a b c d,A0 a b c d/\A1 a b c d/\A2 a b c d/\A3 a b c d/\A4 a b c d/\A5 a b c d:=⟨a,b,c,d,h0,h1,h2,h3,h4,h5⟩
theorem ex3_4 {α0 α1 α2:Type} {A0 A1 A2 A3:α0->α1->α2->Prop} {a:α0} {b:α1} {c:α2} (h0:A0 a b c) (h1:A1 a b c) (h2:A2 a b c) (h3:A3 a b c):∃ a b c,A0 a b c/\A1 a b c/\A2 a b c/\A3 a b c:=⟨a,b,c,h0,h1,h2,h3⟩
theorem ex5_6 {α0 α1 α2 α3 α4:Type} {A0 A1 A2 A3 A4 A5:α0->α1->α2->α3->α4->Prop} {a:α0} {b:α1} {c:α2} {d:α3} {e:α4} (h0:A0 a b c d e) (h1:A1 a b c d e) (h2:A2 a b c d e) (h3:A3 a b c d e) (h4:A4 a b c d e) (h5:A5 a b c d e):∃ a b c d e,A0 a b c d e/\A1 a b c d e/\A2 a b c d e/\A3 a b c d e/\A4 a b c d e/\A5 a b c d e:=⟨a,b,c,d,e,h0,h1,h2,h3,h4,h5⟩
theorem ex5_5 {α0 α1 α2 α3 α4:Type} {A0 A1 A2 A3 A4:α0->α1->α2->α3->α4->Prop} {a:α0} {b:α1} {c:α2} {d:α3} {e:α4} (h0:A0 a b c d e) (h1:A1 a b c d e) (h2:A2 a b c d e) (h3:A3 a b c d e) (h4:A4 a b c d e):∃ a b c d e,A0 a b c d e/\A1 a b c d e/\A2 a b c d e/\A3 a b c d e/\A4 a b c d e:=⟨a,b,c,d,e,h0,h1,h2,h3,h4⟩
theorem ex6_8 {α0 α1 α2 α3 α4 α5:Type} {A0 A1 A2 A3 A4 A5 A6 A7:α0->α1->α2->α3->α4->α5->Prop} {a:α0} {b:α1} {c:α2} {d:α3} {e:α4} {f:α5} (h0:A0 a b c d e f) (h1:A1 a b c d e f) (h2:A2 a b c d e f) (h3:A3 a b c d e f) (h4:A4 a b c d e f) (h5:A5 a b c d e f) (h6:A6 a b c d e f) (h7:A7 a b c d e f):∃ a b c d e f,A0 a b c d e f/\A1 a b c d e f/\A2 a b c d e f/\A3 a b c d e f/\A4 a b c d e f/\A5 a b c d e f/\A6 a b c d e f/\A7 a b c d e f:=⟨a,b,c,d,e,f,h0,h1,h2,h3,h4,h5,h6,h7⟩
theorem ex4_7 {α0 α1 α2 α3:Type} {A0 A1 A2 A3 A4 A5 A6:α0->α1->α2->α3->Prop} {a:α0} {b:α1} {c:α2} {d:α3} (h0:A0 a b c d) (h1:A1 a b c d) (h2:A2 a b c d) (h3:A3 a b c d) (h4:A4 a b c d) (h5:A5 a b c d) (h6:A6 a b c d):∃ a b c d,A0 a b c d/\A1 a b c d/\A2 a b c d/\A3 a b c d/\A4 a b c d/\A5 a b c d/\A6 a b c d:=⟨a,b,c,d,h0,h1,h2,h3,h4,h5,h6⟩
theorem ex2_3 {α0 α1:Type} {A0 A1 A2:α0->α1->Prop} {a:α0} {b:α1} (h0:A0 a b) (h1:A1 a b) (h2:A2 a b):∃ a b,A0 a b/\A1 a b/\A2 a b:=⟨a,b,h0,h1,h2⟩
theorem seq_gen {t u:TS} {D:Ends} {σ:St} {H:Hp} (h:∀ N:St->Hp->Prop,(∀ σ' H',u D σ' H'->N σ' H')->t { D with nx:=N } σ H):tSeq t u D σ H:=h _ fun _ _ z=>z
theorem g_seq {i:Nat} {v:V} {t u:TS} {D:Ends} {σ:St} {H:Hp} (h:∀ N:St->Hp->Prop,(∀ σ' H',u D σ' H'->N σ' H')->t { D with nx:=N } (σ.set i (some v)) H):gName i v σ H (fun σ2 H2=>tSeq t u D σ2 H2):=h _ fun _ _ z=>z
end L2
namespace Sw
open PySem L2
section
variable {P:Program} {w:World} {K:PySem.W.Frag} {mg:Str->Option Value} {base:Heap}
noncomputable def letB (c:Nat):Bool:=decide (97<=c) && decide (c<=122)
noncomputable def nameB (x:Str):Bool:=decide (1<=x.length) && decide (x.length<=8) && x.cps.toList.all letB
theorem letters_are:("abcdefghijklmnopqrstuvwxyz":Str).cps.toList = List.range' 97 26:=by decide +kernel
theorem let_iff (c:Nat):decide (c ∈ ("abcdefghijklmnopqrstuvwxyz":Str).cps.toList) = letB c:=by
 rw [letters_are]
 unfold letB
 by_cases h1:97<=c
 ·by_cases h2:c<=122
  ·rw [decide_eq_true (List.mem_range'_1.mpr (by lia)),decide_eq_true h1,decide_eq_true h2]; rfl
  ·rw [decide_eq_false (fun z=>by have:=List.mem_range'_1.mp z; lia),decide_eq_false h2,Bool.and_false]
 ·rw [decide_eq_false (fun z=>by have:=List.mem_range'_1.mp z; lia),decide_eq_false h1,Bool.false_and]
theorem sc_is_name:FnScope ["thing"] ["thing"] (defScope s_is_name):=⟨rfl,rfl,rfl,by decide +kernel,rfl,by decide +kernel,by decide +kernel⟩
noncomputable def sp_is_name:Sp:=fun vs H Q _=>∃ x,vs = [.str x]/\x.length<=1000/\∀ H',Same H H'->Q (.bl (nameB x)) H'
theorem ok_is_name (T:Tx K mg):FnOk P w K mg base CX0 1 T.is_name.f T.is_name.fd ["thing"] sp_is_name:=by
 refine T.is_name.F.ok sc_is_name (fun vs H Q E h=>?_) (fun cdv A outer s H vs Q E hr h=>?_)
 ·refine o1_2 h fun x zq1 _=>?_
  try clear h
  subst zq1
  rfl
 ·refine o1_3 h fun x zq2 hx k=>?_
  try clear h
  subst zq2
  refine ⟨_,(pss_cons (ps_if (PW.pt (pw_or (pt_not (pt_val (pe_bf (cl_isin K) T.b_isinstance bt_isinstance (pa_cons (pv 0) (pa_cons (pe_ty T.b_str bt_str) pa_nil))))) (pw_or1 (pt_not (pt_chain op_le op_le pe_int (pe_bf call_len_str T.b_len bt_len (pa_cons (pv 0) pa_nil)) (pe_gi T.gLONGEST_NAME)))))) (pss_one (ps_ret pe_bl)) pss_nil)
   (pss_one (ps_ret (pe_bf (cl_all K) T.b_all bt_all (pa_cons (pe_lc (N':=["letter"]) (cap:=[none]) (cl:=[]) (cs_mk trivial trivial) rfl (pi_str (pv 0)) (fun _ _ _ _=>by exact ⟨(pgC 0),pts_nil,(pe_cmpR op_in_str (pv 0) (pe_gs T.gLETTERS) rfl)⟩)) pa_nil))))),?_⟩
  have h64:x.length<=sizeLine:=by rw [sizeLine_eq]; lia
  have hlen:x.cps.size = x.length:=rfl
  refine ex1 rfl ⟨.str x, "str",_,true,rfl,.str x,rfl,ex1 rfl ?_⟩
  refine iteF ?_
  refine ex1 rfl ⟨x,rfl,h64,ex2_3 rfl rfl (ex1 rfl ?_)⟩
  refine ite2 (fun c1=>?_) (fun c1=>?_)
  ·have c1:(1:Int)<=(x.length:Int):=of_decide_eq_true c1
   refine ex2_3 rfl rfl (ex1 rfl ?_)
   by_cases c2:(x.length:Int)<=8
   ·rw [decide_eq_true c2]
    refine iteF ?_
    refine ex1 rfl ⟨x,rfl,fun D hD=>?_⟩
    refine loop_J (n:=x.cps.size) (fun i σ H'=>(∃ v,σ = [v])/\Same H H'/\H' D = some (.lst ((x.cps.toList.take i).map fun c=>V.bl (letB c)))) ⟨⟨_,rfl⟩,Same.new hD,upd_same⟩ (fun i _ _ hi _=>hi) (fun _ _ _=>rfl) ?_ ?_
    ·intro i σ H1 v H' N hi zq3 zq4 hN
     refine o0_3 zq3 fun zq5 s1 e1=>?_
     refine o1_1 zq5 fun v0 zq6=>?_
     subst zq6
     obtain ⟨zq7,c,hc,zq8⟩:=zq4
     subst zq7
     subst zq8
     refine g_true ?_
     refine ex1 rfl (ex2_3 rfl rfl ⟨_,e1,?_,?_⟩)
     ·rw [List.length_map,List.length_take,sizeLine_eq]; lia
     ·rw [PySem.StrLaws.found_one,let_iff]
      refine hN _ _ ⟨⟨_,rfl⟩,s1.upd hD,?_⟩
      rw [upd_same]
      have:x.cps.toList[i]? = some c:=by rw [Array.getElem?_toList]; exact hc
      rw [List.take_add_one,this,List.map_append]
      rfl
    ·intro σ H1 zq9
     refine o0_3 zq9 fun _ s1 e1=>?_
     refine ⟨D,x.cps.toList.map letB,rfl,SqL.of ?_,?_⟩
     ·rw [e1,<-Array.length_toList,List.take_length,List.map_map]; rfl
     ·have e:(x.cps.toList.map letB).all id = nameB x:=by
       unfold nameB
       rw [decide_eq_true (show 1<=x.length by lia),decide_eq_true (show x.length<=8 by lia),List.all_map]
       rfl
      rw [e]
      exact k _ s1
   ·rw [decide_eq_false c2]
    refine iteT ?_
    have e:nameB x = false:=by
     unfold nameB
     rw [decide_eq_false (show ¬ x.length<=8 by lia),Bool.and_false,Bool.false_and]
    have:=k H (Same.refl H)
    rw [e] at this
    exact this
  ·have c1:¬ (1:Int)<=(x.length:Int):=fun z=>c1 (decide_eq_true z)
   refine ex1 rfl ?_
   refine iteT ?_
   have e:nameB x = false:=by
    unfold nameB
    rw [decide_eq_false (show ¬ 1<=x.length by lia),Bool.false_and,Bool.false_and]
   have:=k H (Same.refl H)
   rw [e] at this
   exact this
end
end Sw
namespace Sw
open PySem L2
section
variable {P:Program} {w:World} {K:PySem.W.Frag} {mg:Str->Option Value} {base:Heap}
theorem take_succ {α:Type} {l:List α} {i:Nat} {x:α} (h:l[i]? = some x):l.take (i + 1) = l.take i ++ [x]:=by
 rw [List.take_add_one,h]; rfl
theorem nodup_take {α:Type} {l:List α} {i:Nat} {x:α} (nd:l.Nodup) (h:l[i]? = some x):x ∉ l.take i:=by
 intro hm
 obtain ⟨j,hj,e⟩:=(List.getElem_of_mem hm)
 have hj':j < i:=by rw [List.length_take] at hj; lia
 rw [List.getElem_take] at e
 obtain ⟨hi,e'⟩:=List.getElem?_eq_some_iff.mp h
 have:=(List.getElem_inj nd).mp (e.trans e'.symm)
 lia
theorem sc_check_names:FnScope ["names", "seen", "place", "name"] ["names"] (defScope s_check_names):=⟨rfl,rfl,rfl,by decide +kernel,rfl,by decide +kernel,by decide +kernel⟩
noncomputable def NamesOk (ss:List Str):Prop:=(∀ x ∈ ss,nameB x = true)/\ss.Nodup/\ss.length<=100
noncomputable def sp_check_names (K:PySem.W.Frag):Sp:=fun vs H Q _=>∃ (p:Addr) (ss:List Str),vs = [.ref p]/\SqL K H p (ss.map V.str)/\NamesOk ss/\∀ H',Same H H'->Q .non H'
theorem nameB_len {x:Str} (h:nameB x = true):1<=x.length/\x.length<=8:=by
 unfold nameB at h
 rw [Bool.and_eq_true,Bool.and_eq_true] at h
 exact ⟨of_decide_eq_true h.1.1,of_decide_eq_true h.1.2⟩
theorem ok_check_names (T:Tx K mg):FnOk P w K mg base CX0 2 T.check_names.f T.check_names.fd ["names"] (sp_check_names K):=by
 have G_is_name:FnOk P w K mg base CX0 1 T.is_name.f T.is_name.fd ["thing"] sp_is_name:=ok_is_name T
 have sc:=sc_check_names
 refine T.check_names.F.ok sc_check_names (fun vs H Q E h=>?_) (fun cdv A outer s H vs Q E hr h=>?_)
 ·refine o2_2 h fun p ss zq10 _=>?_
  try clear h
  subst zq10
  rfl
 ·refine o2_4 h fun a ss zq11 hS zq12 k=>?_
  try clear h
  subst zq11
  refine o0_3 zq12 fun hN hD hL=>?_
  have hu:=hu_of hr
  refine ⟨_,(pss_cons (ps_set (i:=1) sc.nd rfl (by first | exact Or.inl rfl | exact Or.inr rfl) (pe_callTy0 (cl_set0 P w) (by rfl) T.b_set bt_set))
   (pss_one (ps_for PassesOwn.never rfl (piE K T.b_enumerate (pa_cons (pv 0) pa_nil)) (pgT K (n:=2) (pgs_cons (pg_name (i:=2) sc.nd rfl (by first | exact Or.inl rfl | exact Or.inr rfl)) (pgs_cons (pg_name (i:=3) sc.nd rfl (by first | exact Or.inl rfl | exact Or.inr rfl)) pgs_nil)))
   (pss_cons (ps_if (PW.pt (pw_or (pt_not (pt_val (pe_fn T.is_name G_is_name (hr.mono (by decide)) (pa_cons (pv 3) pa_nil)))) (pw_or1 (pt_cmpR (o_inS P w) (pv 3) (pv 1) rfl)))) (pss_one ps_never) pss_nil)
   (pss_one (ps_expr (peSadd P w (m_addS P w) (pv 1) (pa_cons (pv 3) pa_nil)))))))),?_⟩
  refine ⟨rfl,fun p hp=>?_⟩
  have s0:Same H (upd H p (SetS P w p [])):=Same.new hp
  refine ex1 rfl ⟨a,ex1 rfl ⟨(s0.at a).seqL hS,for_J (n:=ss.length) (fun i σ H1=>∃ v2 v3,σ = [some (.ref a),some (.ref p),v2,v3]/\Same H H1/\H1 p = some (SetS P w p ((ss.take i).map Sum.inr))) ⟨_,_,rfl,s0,upd_same⟩ ?_ ?_ ?_ ?_⟩⟩
  ·intro i σ H1 hi zq13
   refine o2_3 zq13 fun v2 v3 zq14 s1 e1=>?_
   subst zq14
   exact ⟨_,_,(s1.at a).seqL hS,by rw [List.getElem?_map,List.getElem?_eq_getElem hi]; rfl⟩
  ·intro σ H1 zq15
   refine o2_3 zq15 fun v2 v3 zq16 s1 e1=>?_
   subst zq16
   exact ⟨_,(s1.at a).seqL hS,by rw [List.length_map]⟩
  ·intro i σ H1 v H' hi zq17 zq18
   refine o2_3 zq17 fun v2 v3 zq19 s1 e1=>?_
   subst zq19
   refine o2_4 zq18 fun t x zq20 ht zq21 hx=>?_
   subst zq20
   subst zq21
   have hx:=hx _ ((s1.at a).seqL hS)
   have hi':ss[i]? = some ss[i]:=List.getElem?_eq_getElem hi
   rw [List.getElem?_map,hi'] at hx
   cases hx
   have hm:ss[i] ∈ ss:=List.getElem_mem hi
   have hnb:=hN _ hm
   have hlen:=nameB_len hnb
   have npt:p ≠ t:=ne_of_none e1 ht
   refine ⟨t,ex1 rfl ⟨SqT.of upd_same,rfl,_,ex1 rfl (ex2_3 rfl rfl ?_)⟩⟩
   refine ex1 rfl ⟨ss[i],rfl,by lia,fun H2 s2=>⟨_,rfl,?_⟩⟩
   rw [hnb]
   refine iteF ?_
   have s12:Same H H2:=(s1.trans (Same.new ht)).trans s2
   have e2:H2 p = some (SetS P w p ((ss.take i).map Sum.inr)):=s2 _ _ (by rw [upd_ne npt]; exact e1)
   have hnin:¬ (Sum.inr ss[i]:Key) ∈ (ss.take i).map Sum.inr:=fun z=>by
    refine o1_2 (List.mem_map.mp z) fun y hy e=>?_
    cases e
    exact nodup_take hD hi' hy
   refine ex1 rfl (ex1 rfl ⟨p,_,Sum.inr ss[i],rfl,rfl,e2,ex1 rfl ?_⟩)
   rw [if_neg (by decide),decide_eq_false hnin]
   refine iteF ?_
   refine ex1 rfl ⟨⟨p,rfl,.inl ⟨_,e2⟩⟩,ex1 rfl ⟨p,_,Sum.inr ss[i],rfl,rfl,e2,?_,?_⟩⟩
   ·rw [List.length_map,List.length_take]; lia
   ·refine ⟨_,ex1 rfl ⟨s12.upd hp,?_⟩⟩
    rw [upd_same]
    unfold addK
    rw [if_neg hnin,take_succ hi',List.map_append]
    rfl
  ·intro σ H1 zq22
   refine o2_3 zq22 fun v2 v3 zq23 s1 e1=>?_
   subst zq23
   exact k H1 s1
end
end Sw
namespace Sw
open PySem L2
theorem flat_strs (ss:List Str):(ss.map V.str).all flatV = true:=by
 rw [List.all_eq_true]
 intro v hv
 refine o1_2 (List.mem_map.mp hv) fun x _ zq24=>?_
 subst zq24
 rfl
theorem inV_str (x:Str) (ss:List Str):inV (.str x) (ss.map V.str) = decide (x ∈ ss):=by
 unfold inV
 rw [List.any_map]
 induction ss with
 | nil=>rfl
 | cons y r ih =>
  rw [List.any_cons,ih]
  show ((y == x) || decide (x ∈ r)) = decide (x ∈ y :: r)
  by_cases e:x = y
  ·subst e
   simp
  ·have:(y == x) = false:=by simpa using fun z=>e z.symm
   rw [this,Bool.false_or]
   by_cases h:x ∈ r
   ·rw [decide_eq_true h,decide_eq_true (List.mem_cons_of_mem _ h)]
   ·rw [decide_eq_false h,decide_eq_false (fun z=>(List.mem_cons.mp z).elim e h)]
theorem inL_str {K:PySem.W.Frag} {H:Hp} {p:Addr} {x:Str} {ss:List Str} {Q:VK} (h:Sqs K H p (ss.map V.str)) (q:Q (.bl (decide (x ∈ ss))) H):rIn K false (.str x) (.ref p) H Q :=
 ⟨p,_,rfl,h,rfl,flat_strs ss,by rw [if_neg (by decide),inV_str]; exact q⟩
theorem notInL_str {K:PySem.W.Frag} {H:Hp} {p:Addr} {x:Str} {ss:List Str} {Q:VK} (h:Sqs K H p (ss.map V.str)) (q:Q (.bl (!decide (x ∈ ss))) H):rIn K true (.str x) (.ref p) H Q :=
 ⟨p,_,rfl,h,rfl,flat_strs ss,by rw [if_pos rfl,inV_str]; exact q⟩
end Sw
namespace Sw
open PySem L2
section
variable {P:Program} {w:World} {K:PySem.W.Frag} {mg:Str->Option Value} {base:Heap}
theorem sc_is_strike:FnScope ["names", "thing"] ["names", "thing"] (defScope s_is_strike):=⟨rfl,rfl,rfl,by decide +kernel,rfl,by decide +kernel,by decide +kernel⟩
noncomputable def sp_is_strike (K:PySem.W.Frag):Sp:=fun vs H Q _=>∃ (p:Addr) (ss:List Str) (t:Addr) (x y:Str),vs = [.ref p,.ref t]/\SqL K H p (ss.map V.str)/\H t = some (.tup [.str x,.str y])/\x ∈ ss/\y ∈ ss/\Q (.bl true) H
theorem ok_is_strike (T:Tx K mg):FnOk P w K mg base CX0 1 T.is_strike.f T.is_strike.fd ["names", "thing"] (sp_is_strike K):=by
 refine T.is_strike.F.ok sc_is_strike (fun vs H Q E h=>?_) (fun cdv A outer s H vs Q E hr h=>?_)
 ·refine o5_2 h fun p ss t x y zq25 _=>?_
  try clear h
  subst zq25
  rfl
 ·refine o5_6 h fun p ss t x y zq26 hS ht hx hy k=>?_
  try clear h
  subst zq26
  refine ⟨_,(pss_cons (ps_if (PW.pt (pw_or (pt_not (pt_val (pe_bf (cl_isin K) T.b_isinstance bt_isinstance (pa_cons (pv 1) (pa_cons (pe_ty T.b_tuple bt_tuple) pa_nil))))) (pw_or1 (pt_cmpR op_ne (pe_bf (cl_len K) T.b_len bt_len (pa_cons (pv 1) pa_nil)) pe_int (nomark _))))) (pss_one (ps_ret pe_bl)) pss_nil)
   (pss_one (ps_ret (pe_and (pe_cmpR (o_inL K) (pe_ix (ixT K) (pv 1) pe_int (fun _ _=>rfl)) (pv 0) rfl) (pe_one (pe_cmpR (o_inL K) (pe_ix (ixT K) (pv 1) pe_int (fun _ _=>rfl)) (pv 0) rfl)))))),?_⟩
  refine ex1 rfl ⟨_, "tuple",_,true,rfl,.tup ht,rfl,ex1 rfl ?_⟩
  refine iteF ?_
  refine ex1 rfl (ex2_3 (a:=t) rfl (.inr (SqT.of ht)) ⟨rfl,ex1 rfl ?_⟩)
  refine iteF ?_
  refine ex1 rfl ⟨t,_,ex2_3 rfl rfl ⟨SqT.of ht,rfl,ex1 rfl (inL_str (.inl hS) ⟨_,rfl,?_⟩)⟩⟩
  rw [decide_eq_true hx]
  refine iteT ?_
  refine ex1 rfl ⟨t,_,ex2_3 rfl rfl ⟨SqT.of ht,rfl,ex1 rfl (inL_str (.inl hS) ?_)⟩⟩
  rw [decide_eq_true hy]
  exact k
structure StrkOk (ss:List Str) (ps:List PA2):Prop where
 nm:∀ q ∈ ps,q.2.1 ∈ ss/\q.2.2 ∈ ss
 nd:(ps.map fun q=>q.2).Nodup
 len:ps.length<=200
noncomputable def refs (ps:List PA2):List V:=ps.map fun q=>V.ref q.1
noncomputable def pkeys (ps:List PA2):List (List Key × Addr):=ps.map fun q=>([.inr q.2.1,.inr q.2.2],q.1)
theorem pkeys_in {H:Hp} {ps:List PA2} (h:∀ q ∈ ps,PairIn H q):TupsIn H (pkeys ps):=fun k hk=>by
 refine o1_2 (List.mem_map.mp hk) fun q hq zq27=>?_
 subst zq27
 exact h q hq
theorem same_pairs {H H':Hp} {ps:List PA2} (s:Same H H') (h:∀ q ∈ ps,PairIn H q):∀ q ∈ ps,PairIn H' q:=fun q hq=>s _ _ (h q hq)
theorem sc_check_strikes:FnScope ["names", "strikes", "seen", "place", "strike"] ["names", "strikes"] (defScope s_check_strikes):=⟨rfl,rfl,rfl,by decide +kernel,rfl,by decide +kernel,by decide +kernel⟩
noncomputable def sp_check_strikes (K:PySem.W.Frag):Sp:=fun vs H Q _=>∃ (p:Addr) (ss:List Str) (a:Addr) (ps:List PA2),vs = [.ref p,.ref a]/\SqL K H p (ss.map V.str)/\SqL K H a (refs ps)/\(∀ q ∈ ps,PairIn H q)/\StrkOk ss ps/\∀ H',Same H H'->Q .non H'
theorem ok_check_strikes (T:Tx K mg):FnOk P w K mg base CX0 2 T.check_strikes.f T.check_strikes.fd ["names", "strikes"] (sp_check_strikes K):=by
 have G_is_strike:FnOk P w K mg base CX0 1 T.is_strike.f T.is_strike.fd ["names", "thing"] (sp_is_strike K):=ok_is_strike T
 have sc:=sc_check_strikes
 refine T.check_strikes.F.ok sc_check_strikes (fun vs H Q E h=>?_) (fun cdv A outer s H vs Q E hr h=>?_)
 ·refine o4_2 h fun p ss t x zq28 _=>?_
  try clear h
  subst zq28
  rfl
 ·refine o4_6 h fun n ss a ps zq29 hS hP hI zq30 k=>?_
  try clear h
  subst zq29
  obtain ⟨hN,hD,hL⟩:=zq30
  have hu:=hu_of hr
  refine ⟨_,(pss_cons (ps_set (i:=2) sc.nd rfl (by first | exact Or.inl rfl | exact Or.inr rfl) (pe_callTy0 (cl_set0T P w) (by rfl) T.b_set bt_set))
   (pss_one (ps_for PassesOwn.never rfl (piE K T.b_enumerate (pa_cons (pv 1) pa_nil)) (pgT K (n:=2) (pgs_cons (pg_name (i:=3) sc.nd rfl (by first | exact Or.inl rfl | exact Or.inr rfl)) (pgs_cons (pg_name (i:=4) sc.nd rfl (by first | exact Or.inl rfl | exact Or.inr rfl)) pgs_nil)))
   (pss_cons (ps_if (PW.pt (pw_or (pt_not (pt_val (pe_fn T.is_strike G_is_strike (hr.mono (by decide)) (pa_cons (pv 0) (pa_cons (pv 4) pa_nil))))) (pw_or1 (pt_cmpR (o_inT P w hu) (pv 4) (pv 2) rfl)))) (pss_one ps_never) pss_nil)
   (pss_one (ps_expr (peSadd P w (m_addT P w hu) (pv 2) (pa_cons (pv 4) pa_nil)))))))),?_⟩
  refine ⟨rfl,fun p hp=>?_⟩
  have s0:Same H (upd H p (SetT P w p [])):=Same.new hp
  refine ex1 rfl ⟨a,ex1 rfl ⟨(s0.at a).seqL hP,for_J (n:=ps.length) (fun i σ H1=>∃ v3 v4,σ = [some (.ref n),some (.ref a),some (.ref p),v3,v4]/\Same H H1/\H1 p = some (SetT P w p (pkeys (ps.take i)))) ⟨_,_,rfl,s0,upd_same⟩ ?_ ?_ ?_ ?_⟩⟩
  ·intro i σ H1 hi zq31
   refine o2_3 zq31 fun v2 v3 zq32 s1 e1=>?_
   subst zq32
   exact ⟨_,_,(s1.at a).seqL hP,by unfold refs; rw [List.getElem?_map,List.getElem?_eq_getElem hi]; rfl⟩
  ·intro σ H1 zq33
   refine o2_3 zq33 fun v2 v3 zq34 s1 e1=>?_
   subst zq34
   exact ⟨_,(s1.at a).seqL hP,by unfold refs; rw [List.length_map]⟩
  ·intro i σ H1 v H' hi zq35 zq36
   refine o2_3 zq35 fun v2 v3 zq37 s1 e1=>?_
   subst zq37
   refine o2_4 zq36 fun t x zq38 ht zq39 hx=>?_
   subst zq38
   subst zq39
   have hx:=hx _ ((s1.at a).seqL hP)
   have hi':ps[i]? = some ps[i]:=List.getElem?_eq_getElem hi
   unfold refs at hx
   rw [List.getElem?_map,hi'] at hx
   cases hx
   have hm:ps[i] ∈ ps:=List.getElem_mem hi
   refine o0_2 (hN _ hm) fun hn1 hn2=>?_
   have npt:p ≠ t:=ne_of_none e1 ht
   have s2:Same H (upd H1 t (.tup [.int i,.ref ps[i].1])):=s1.trans (Same.new ht)
   have hq:=s2 _ _ (hI _ hm)
   refine ⟨t,ex1 rfl ⟨SqT.of upd_same,rfl,_,ex1 rfl (ex2_3 rfl rfl ?_)⟩⟩
   refine ex1 rfl (ex1 rfl ⟨n,ss,ps[i].1,ps[i].2.1,ps[i].2.2,rfl,(s2.at n).seqL hS,hq,hn1,hn2,ex1 rfl ?_⟩)
   refine iteF ?_
   have e2:(upd H1 t (.tup [.int i,.ref ps[i].1])) p = some (SetT P w p (pkeys (ps.take i))):=by rw [upd_ne npt]; exact e1
   have hin:TupsIn (upd H1 t (.tup [.int i,.ref ps[i].1])) (pkeys (ps.take i)):=pkeys_in (same_pairs s2 fun q hq=>hI q (List.mem_of_mem_take hq))
   have hne:∀ q ∈ pkeys (ps.take i),q.1 ≠ [.inr ps[i].2.1,.inr ps[i].2.2]:=fun q hq e=>by
    refine o1_2 (List.mem_map.mp hq) fun z hz zq40=>?_
    subst zq40
    have e':z.2 = ps[i].2:=by
     obtain ⟨z1,z2,z3⟩:=z
     simp only [List.cons.injEq,Sum.inr.injEq,and_true] at e
     exact Prod.ext e.1 e.2
    have h1:(ps.map fun q=>q.2)[i]? = some ps[i].2:=by rw [List.getElem?_map,hi']; rfl
    refine nodup_take hD h1 ?_
    rw [<-List.map_take,<-e']
    exact List.mem_map.mpr ⟨z,hz,rfl⟩
   refine ex1 rfl (ex1 rfl ⟨p,ps[i].1,_,[.inr ps[i].2.1,.inr ps[i].2.2],rfl,rfl,e2,hq,hin,hne,ex1 rfl ?_⟩)
   refine iteF ?_
   refine ex1 rfl ⟨⟨p,rfl,.inr (.inr ⟨_,e2⟩)⟩,ex1 rfl ⟨p,ps[i].1,_,[.inr ps[i].2.1,.inr ps[i].2.2],rfl,rfl,e2,hq,hin,hne,?_,?_⟩⟩
   ·unfold pkeys; rw [List.length_map,List.length_take]; lia
   ·refine ⟨_,ex1 rfl ⟨s2.upd hp,?_⟩⟩
    rw [upd_same,take_succ hi']
    unfold pkeys
    rw [List.map_append]
    rfl
  ·intro σ H1 zq41
   refine o2_3 zq41 fun v2 v3 zq42 s1 e1=>?_
   subst zq42
   exact k H1 s1
end
end Sw
namespace Sw
open PySem L2
noncomputable def la (kvs:List (Key × V)) (n:Str):Addr:=match valV kvs (.inr n) with | some (.ref l)=>l | _=>0
theorem val_put (kvs:List (Key × V)) (n m:Str) (v:V):valV (putK kvs (Sum.inr n:Key) v) (.inr m) = if m = n then some v else valV kvs (.inr m):=by
 rw [valV_put]
 by_cases e:m = n
 ·rw [if_pos e,if_pos (by rw [e])]
 ·rw [if_neg e,if_neg (fun z=>e (Sum.inr.inj z))]
theorem la_put (kvs:List (Key × V)) (n m:Str) (p:Addr):la (putK kvs (.inr n) (.ref p)) m = if m = n then p else la kvs m:=by
 unfold la
 rw [val_put]
 by_cases e:m = n
 ·rw [if_pos e,if_pos e]
 ·rw [if_neg e,if_neg e]
structure DOk (H0:Hp) (kvs:List (Key × V)) (ns:List Str):Prop where
 val:∀ n ∈ ns,valV kvs (.inr n) = some (.ref (la kvs n))
 inj:∀ n ∈ ns,∀ m ∈ ns,la kvs n = la kvs m->n = m
 fr:∀ n ∈ ns,H0 (la kvs n) = none
theorem dc_run {K:PySem.W.Frag} {J:It} {a:Addr} {ns:List Str} {H:Hp} {σ:St} {Q:St->Hp->Prop} (as:AsSeq J (ns.map V.str) a H) (hσ:∃ v,σ = [v]) (nd:ns.Nodup) (hl:ns.length<=1000) {D:Addr} (hD:H D = none)
  (q:∀ σ kvs H',Same H H'->H' D = some (.dK kvs)->DOk H kvs ns->(∀ n ∈ ns,H' (la kvs n) = some (.lst []))->(∀ n ∈ ns,la kvs n ≠ D)->Q σ H') :
  Loop (gName 0) tTrue (emDct D (tVar 0) (tLst tNil)) J σ (upd H D (.dK [])) Q:=by
 refine o1_1 hσ fun v zq43=>?_
 try clear hσ
 subst zq43
 refine loop_as as (fun i σ H1=>(∃ v,σ = [v])/\∃ kvs,Same H H1/\H1 D = some (.dK kvs)/\kvs.length<=i/\DOk H kvs (ns.take i)/\(∀ n ∈ ns.take i,H1 (la kvs n) = some (.lst []))/\∀ n ∈ ns.take i,la kvs n ≠ D)
  ⟨⟨v,rfl⟩,[],Same.new hD,upd_same,Nat.zero_le _,⟨fun n h=>by simp at h,fun n h=>by simp at h,fun n h=>by simp at h⟩,fun n h=>by simp at h,fun n h=>by simp at h⟩ (fun i σ H1 _ ⟨_,kvs,s1,_⟩=>s1.at a) ?_ ?_
 ·intro i σ H1 x N hx zq44 hN
  obtain ⟨zq45,kvs,s1,e1,l1,D1,c1,n1⟩:=zq44
  refine o1_1 zq45 fun v zq46=>?_
  subst zq46
  rw [List.getElem?_map] at hx
  have hi:i < ns.length:=by
   rcases Nat.lt_or_ge i ns.length with z | z
   ·exact z
   ·rw [List.getElem?_eq_none z] at hx; cases hx
  have hi':ns[i]? = some ns[i]:=List.getElem?_eq_getElem hi
  rw [hi'] at hx
  cases hx
  refine g_true ?_
  refine ex1 rfl ⟨Nat.zero_le _,fun p hp=>?_⟩
  have npD:D ≠ p:=ne_of_none e1 hp
  refine ⟨kvs,.inr ns[i],by rw [upd_ne npD]; exact e1,rfl,by rw [sizeLine_eq]; lia,hN _ _ ⟨⟨_,rfl⟩,putK kvs (.inr ns[i]) (.ref p),?_,upd_same,?_,⟨?_,?_,?_⟩,?_,?_⟩⟩
  ·exact (s1.trans (Same.new hp)).upd hD
  ·have:=length_putK kvs (Sum.inr ns[i]:Key) (.ref p)
   lia
  all_goals rw [take_succ hi']
  ·intro n hn
   rw [val_put,la_put]
   by_cases e:n = ns[i]
   ·rw [if_pos e,if_pos e]
   ·rw [if_neg e,if_neg e]
    rcases List.mem_append.mp hn with z | z
    ·exact D1.val n z
    ·exact absurd (List.mem_singleton.mp z) e
  ·intro n hn m hm
   rw [la_put,la_put]
   have old:∀ k ∈ ns.take i ++ [ns[i]],k ≠ ns[i]->k ∈ ns.take i:=fun k hk e=>(List.mem_append.mp hk).elim id fun z=>absurd (List.mem_singleton.mp z) e
   by_cases e:n = ns[i]
   ·by_cases e':m = ns[i]
    ·exact fun _=>e.trans e'.symm
    ·rw [if_pos e,if_neg e']
     intro z
     have:=c1 m (old m hm e')
     rw [<-z,hp] at this; cases this
   ·by_cases e':m = ns[i]
    ·rw [if_neg e,if_pos e']
     intro z
     have:=c1 n (old n hn e)
     rw [z,hp] at this; cases this
    ·rw [if_neg e,if_neg e']
     exact D1.inj n (old n hn e) m (old m hm e')
  ·intro n hn
   rw [la_put]
   by_cases e:n = ns[i]
   ·rw [if_pos e]; exact s1.free hp
   ·rw [if_neg e]
    rcases List.mem_append.mp hn with z | z
    ·exact D1.fr n z
    ·exact absurd (List.mem_singleton.mp z) e
  ·intro n hn
   rw [la_put]
   by_cases e:n = ns[i]
   ·rw [if_pos e,upd_ne npD.symm,upd_same]
   ·rw [if_neg e]
    rcases List.mem_append.mp hn with z | z
    ·rw [upd_ne (n1 n z),upd_ne (ne_of_none (c1 n z) hp)]
     exact c1 n z
    ·exact absurd (List.mem_singleton.mp z) e
  ·intro n hn
   rw [la_put]
   by_cases e:n = ns[i]
   ·rw [if_pos e]; exact npD.symm
   ·rw [if_neg e]
    rcases List.mem_append.mp hn with z | z
    ·exact n1 n z
    ·exact absurd (List.mem_singleton.mp z) e
 ·intro σ H1 zq47
  obtain ⟨_,kvs,s1,e1,l1,D1,c1,n1⟩:=zq47
  rw [List.length_map] at *
  rw [List.take_length] at *
  exact q σ kvs H1 s1 e1 D1 c1 n1
end Sw
namespace Sw
open PySem L2
noncomputable def strikersOf (qs:List PA2) (n:Str):List Str:=(qs.filter fun q=>decide (q.2.2 = n)).map fun q=>q.2.1
noncomputable def struckOf (qs:List PA2) (n:Str):List Str:=(qs.filter fun q=>decide (q.2.1 = n)).map fun q=>q.2.2
theorem strikersOf_snoc (qs:List PA2) (q:PA2) (n:Str):strikersOf (qs ++ [q]) n = strikersOf qs n ++ (if q.2.2 = n then [q.2.1] else []):=by
 unfold strikersOf
 rw [List.filter_append,List.map_append]
 by_cases e:q.2.2 = n
 ·rw [if_pos e,List.filter_cons,if_pos (decide_eq_true e)]; rfl
 ·rw [if_neg e,List.filter_cons,if_neg (by simp [e])]; rfl
theorem struckOf_snoc (qs:List PA2) (q:PA2) (n:Str):struckOf (qs ++ [q]) n = struckOf qs n ++ (if q.2.1 = n then [q.2.2] else []):=by
 unfold struckOf
 rw [List.filter_append,List.map_append]
 by_cases e:q.2.1 = n
 ·rw [if_pos e,List.filter_cons,if_pos (decide_eq_true e)]; rfl
 ·rw [if_neg e,List.filter_cons,if_neg (by simp [e])]; rfl
noncomputable def wf (a b c d:Addr):List (Str × V):=[("names",.ref a),("strikes",.ref b),("strikers_by_name",.ref c),("struck_by_name",.ref d)]
structure WebOk (ns:List Str) (qs:List PA2):Prop where
 nd:ns.Nodup
 len:ns.length<=100
 srt:ns.Pairwise leS
 mem:∀ q ∈ qs,q.2.1 ∈ ns/\q.2.2 ∈ ns
 ndq:(qs.map fun q=>q.2).Nodup
 lenq:qs.length<=200
 srq:qs.Pairwise leP
structure WebAt (C:Addr) (H:Hp) (x:Addr) (ns:List Str) (qs:List PA2):Prop where
 ok:WebOk ns qs
 ex:∃ dx a b c d kc kd,H x = some (.ins C dx (wf a b c d))/\H a = some (.lst (ns.map V.str))/\H b = some (.lst (refs qs))/\(∀ q ∈ qs,PairIn H q)/\H c = some (.dK kc)/\H d = some (.dK kd) /\
  (∀ n ∈ ns,∃ l,valV kc (.inr n) = some (.ref l)/\H l = some (.lst ((strikersOf qs n).map V.str)))/\∀ n ∈ ns,∃ l,valV kd (.inr n) = some (.ref l)/\H l = some (.lst ((struckOf qs n).map V.str))
section
variable {P:Program} {w:World} {K:PySem.W.Frag} {mg:Str->Option Value} {base:Heap}
theorem sc_Web___init__:FnScope ["self", "names", "strikes", "one", "other"] ["self", "names", "strikes"] (defScope s_Web___init__):=⟨rfl,rfl,rfl,by decide +kernel,rfl,by decide +kernel,by decide +kernel⟩
noncomputable def sp_Web_init (K:PySem.W.Frag) (C:Addr):Sp:=fun vs H Q _=>∃ (x dx n:Addr) (ss:List Str) (a:Addr) (ps:List PA2),vs = [.ref x,.ref n,.ref a]/\H x = some (.ins C dx [])/\H n = some (.lst (ss.map V.str))/\NamesOk ss /\
 H a = some (.lst (refs ps))/\(∀ q ∈ ps,PairIn H q)/\StrkOk ss ps/\∀ ns qs H',ns.Perm ss->ns.Pairwise leS->qs.Perm ps->qs.Pairwise leP->Sm [x] H H'->WebAt C H' x ns qs->Q .non H'
theorem ok_Web_init (T:Tx K mg):FnOk P w K mg base CX0 3 T.fWeb___init__ T.fdWeb___init__ ["self", "names", "strikes"] (sp_Web_init K T.CWeb):=by
 have G_check_names:FnOk P w K mg base CX0 2 T.check_names.f T.check_names.fd ["names"] (sp_check_names K):=ok_check_names T
 have G_check_strikes:FnOk P w K mg base CX0 2 T.check_strikes.f T.check_strikes.fd ["names", "strikes"] (sp_check_strikes K):=ok_check_strikes T
 have sc:=sc_Web___init__
 refine T.FWeb___init__.ok sc_Web___init__ (fun vs H Q E h=>?_) (fun cdv A outer s H vs Q E hr h=>?_)
 ·refine o6_2 h fun x dx n ss a ps zq48 _=>?_
  try clear h
  subst zq48
  rfl
 ·refine o6_8 h fun x dx n ss a ps zq49 hx hS hN hP hI hO k=>?_
  try clear h
  subst zq49
  have hu:=hu_of hr
  refine ⟨_,(pss_cons (ps_expr (pe_fn T.check_names G_check_names (hr.mono (by decide)) (pa_cons (pv 1) pa_nil)))
   (pss_cons (ps_expr (pe_fn T.check_strikes G_check_strikes (hr.mono (by decide)) (pa_cons (pv 1) (pa_cons (pv 2) pa_nil))))
   (pss_cons (psF K (pv 0) (pe_bf (cl_sortS K) T.b_sorted bt_sorted (pa_cons (pv 1) pa_nil)))
   (pss_cons (psF K (pv 0) (pe_bf (cl_sortP K) T.b_sorted bt_sorted (pa_cons (pv 2) pa_nil)))
   (pss_cons (psF K (pv 0) (pe_dc (N':=["name"]) (cap:=[none]) (cl:=[]) (cs_mk trivial trivial) rfl (piL K (peF K (pv 0))) (fun _ _ _ _=>by exact ⟨(pgC 0),pts_nil,(pv 0),(pe_lst pa_nil)⟩)))
   (pss_cons (psF K (pv 0) (pe_dc (N':=["name"]) (cap:=[none]) (cl:=[]) (cs_mk trivial trivial) rfl (piL K (peF K (pv 0))) (fun _ _ _ _=>by exact ⟨(pgC 0),pts_nil,(pv 0),(pe_lst pa_nil)⟩)))
   (pss_one (ps_for PassesOwn.never rfl (piL K (peF K (pv 0))) (pgT K (n:=2) (pgs_cons (pg_name (i:=3) sc.nd rfl (by first | exact Or.inl rfl | exact Or.inr rfl)) (pgs_cons (pg_name (i:=4) sc.nd rfl (by first | exact Or.inl rfl | exact Or.inr rfl)) pgs_nil)))
   (pss_cons (ps_expr (peBM K PySem.F.plainAttrs_list PySem.F.slot_list_append PySem.F.type_list_append mt_append (pe_dget hu (peF K (pv 0)) (pv 4) (fun _ _=>rfl)) (pa_cons (pv 3) pa_nil)))
   (pss_one (ps_expr (peBM K PySem.F.plainAttrs_list PySem.F.slot_list_append PySem.F.type_list_append mt_append (pe_dget hu (peF K (pv 0)) (pv 3) (fun _ _=>rfl)) (pa_cons (pv 4) pa_nil))))))))))))),?_⟩
  refine o0_3 (id hN) fun hN1 hN2 hN3=>?_
  obtain ⟨hO1,hO2,hO3⟩:=(id hO)
  refine seq_gen fun Z1 hZ1=>?_
  refine ex1 rfl ⟨n,ss,rfl,SqL.of hS,hN,fun H1 s1=>?_⟩
  refine hZ1 _ _ (seq_gen fun Z2 hZ2=>?_)
  refine ex1 rfl (ex1 rfl ⟨n,ss,a,ps,rfl,SqL.of (s1 _ _ hS),SqL.of (s1 _ _ hP),same_pairs s1 hI,hO,fun H2 s2=>?_⟩)
  refine hZ2 _ _ (seq_gen fun Z3 hZ3=>?_)
  have s12:=s1.trans s2
  refine ex1 rfl ⟨n,ss,rfl,SqL.of (s12 _ _ hS),fun l1 ns hl1 p1 w1=>?_⟩
  have nx1:x ≠ l1:=ne_of_none (s12 _ _ hx) hl1
  refine ex1 rfl ⟨x,T.CWeb,dx,[],rfl,by rw [upd_ne nx1]; exact s12 _ _ hx,T.clWeb,T.nWeb_names,by decide,?_⟩
  have hxa:a ≠ x:=ne_of hP hx (by intro z; cases z)
  have k3:Sm [x] H (upd (upd H2 l1 (.lst (ns.map V.str))) x (.ins T.CWeb dx (putF "names" (.ref l1) []))):=(Sm.new s12.sm hl1).upd (by simp)
  have e3:(upd (upd H2 l1 (.lst (ns.map V.str))) x (.ins T.CWeb dx (putF "names" (.ref l1) []))) l1 = some (.lst (ns.map V.str)):=by rw [upd_ne nx1.symm,upd_same]
  generalize hH3:upd (upd H2 l1 (.lst (ns.map V.str))) x (.ins T.CWeb dx (putF "names" (.ref l1) [])) = H3 at k3 e3 ⊢
  refine hZ3 _ _ (seq_gen fun Z4 hZ4=>?_)
  have x3:H3 x = some (.ins T.CWeb dx [("names",.ref l1)]):=by rw [<-hH3,upd_same]; rfl
  have nin:∀ {b:Addr},b ≠ x->b ∉ [x]:=fun h z=>h (List.mem_singleton.mp z)
  have pin3:∀ q ∈ ps,PairIn H3 q:=fun q hq=>k3 _ _ (hI q hq) (nin (ne_of (hI q hq) hx (by intro z; cases z)))
  refine ex1 rfl ⟨a,ps,rfl,SqL.of (k3 _ _ hP (nin hxa)),pin3,fun l2 qs hl2 p2 w2=>?_⟩
  have nx2:x ≠ l2:=ne_of_none x3 hl2
  refine ex1 rfl ⟨x,T.CWeb,dx,[("names",.ref l1)],rfl,by rw [upd_ne nx2]; exact x3,T.clWeb,T.nWeb_strikes,by simp,?_⟩
  have k4:Sm [x] H3 (upd (upd H3 l2 (.lst (refs qs))) x (.ins T.CWeb dx (putF "strikes" (.ref l2) [("names",.ref l1)]))):=(Sm.new (Sm.refl _ _) hl2).upd (by simp)
  have e4:(upd (upd H3 l2 (.lst (refs qs))) x (.ins T.CWeb dx (putF "strikes" (.ref l2) [("names",.ref l1)]))) l2 = some (.lst (refs qs)):=by rw [upd_ne nx2.symm,upd_same]
  have x4:(upd (upd H3 l2 (.lst (refs qs))) x (.ins T.CWeb dx (putF "strikes" (.ref l2) [("names",.ref l1)]))) x = some (.ins T.CWeb dx [("names",.ref l1),("strikes",.ref l2)]):=by rw [upd_same]; rfl
  refine hZ4 _ _ ?_
  show tSeq _ _ _ _ (upd (upd H3 l2 (.lst (refs qs))) x (.ins T.CWeb dx (putF "strikes" (.ref l2) [("names",.ref l1)])))
  generalize upd (upd H3 l2 (.lst (refs qs))) x (.ins T.CWeb dx (putF "strikes" (.ref l2) [("names",.ref l1)])) = H4 at k4 e4 x4 ⊢
  have f4:H4 l1 = some (.lst (ns.map V.str)):=k4 _ _ e3 (nin nx1.symm)
  have pin4:∀ q ∈ qs,PairIn H4 q:=fun q hq=>k4 _ _ (pin3 q (p2.mem_iff.mp hq)) (nin (ne_of (pin3 q (p2.mem_iff.mp hq)) x3 (by intro z; cases z)))
  have ndn:ns.Nodup:=p1.nodup_iff.mpr hN2
  have lnn:ns.length<=1000:=by rw [p1.length_eq]; lia
  refine seq_gen fun Z5 hZ5=>?_
  refine ex1 rfl ⟨x,T.CWeb,dx,_,ex1 rfl ⟨x4,T.clWeb,T.nWeb_names,rfl,l1,rfl,⟨_,SqL.of f4⟩,fun c hc=>dc_run (K:=K) (asL (SqL.of f4)) ⟨_,rfl⟩ ndn lnn hc fun _ kc H5 s5 e5 D5 c5 n5=>?_⟩⟩
  have x5:=s5 _ _ x4
  refine ex1 rfl ⟨x,T.CWeb,dx,ex1 rfl ⟨x5,T.clWeb,T.nWeb_strikers_by_name,by simp,?_⟩⟩
  have k6:Sm [x] H5 (upd H5 x (.ins T.CWeb dx (putF "strikers_by_name" (.ref c) [("names",.ref l1),("strikes",.ref l2)]))):=(Sm.refl _ _).upd (by simp)
  have x6:(upd H5 x (.ins T.CWeb dx (putF "strikers_by_name" (.ref c) [("names",.ref l1),("strikes",.ref l2)]))) x = some (.ins T.CWeb dx [("names",.ref l1),("strikes",.ref l2),("strikers_by_name",.ref c)]):=by rw [upd_same]; rfl
  generalize upd H5 x (.ins T.CWeb dx (putF "strikers_by_name" (.ref c) [("names",.ref l1),("strikes",.ref l2)])) = H6 at k6 x6 ⊢
  refine hZ5 _ _ (seq_gen fun Z6 hZ6=>?_)
  have kk6:∀ {b:Addr} {o:HO},H4 b = some o->b ≠ x->H6 b = some o:=fun e hb=>k6 _ _ (s5 _ _ e) (nin hb)
  have f6:=kk6 f4 nx1.symm
  have g6:=kk6 e4 nx2.symm
  have c6:H6 c = some (.dK kc):=k6 _ _ e5 (nin (ne_of_none x4 hc).symm)
  have cl6:∀ n ∈ ns,H6 (la kc n) = some (.lst []):=fun n hn=>k6 _ _ (c5 n hn) (nin (ne_of_none x4 (D5.fr n hn)).symm)
  refine ex1 rfl ⟨x,T.CWeb,dx,_,ex1 rfl ⟨x6,T.clWeb,T.nWeb_names,rfl,l1,rfl,⟨_,SqL.of f6⟩,fun d hd=>dc_run (K:=K) (asL (SqL.of f6)) ⟨_,rfl⟩ ndn lnn hd fun _ kd H7 s7 e7 D7 c7 n7=>?_⟩⟩
  have x7:=s7 _ _ x6
  refine ex1 rfl ⟨x,T.CWeb,dx,ex1 rfl ⟨x7,T.clWeb,T.nWeb_struck_by_name,by simp,?_⟩⟩
  have k8:Sm [x] H7 (upd H7 x (.ins T.CWeb dx (putF "struck_by_name" (.ref d) [("names",.ref l1),("strikes",.ref l2),("strikers_by_name",.ref c)]))):=(Sm.refl _ _).upd (by simp)
  have x8:(upd H7 x (.ins T.CWeb dx (putF "struck_by_name" (.ref d) [("names",.ref l1),("strikes",.ref l2),("strikers_by_name",.ref c)]))) x = some (.ins T.CWeb dx (wf l1 l2 c d)):=by rw [upd_same]; rfl
  generalize upd H7 x (.ins T.CWeb dx (putF "struck_by_name" (.ref d) [("names",.ref l1),("strikes",.ref l2),("strikers_by_name",.ref c)])) = H8 at k8 x8 ⊢
  refine hZ6 _ _ ?_
  have kk8:∀ {b:Addr} {o:HO},H6 b = some o->b ≠ x->H8 b = some o:=fun e hb=>k8 _ _ (s7 _ _ e) (nin hb)
  have f8:=kk8 f6 nx1.symm
  have g8:=kk8 g6 nx2.symm
  have c8:=kk8 c6 (ne_of_none x4 hc).symm
  have d8:H8 d = some (.dK kd):=k8 _ _ e7 (nin (ne_of_none x6 hd).symm)
  have cl8:∀ n ∈ ns,H8 (la kc n) = some (.lst []):=fun n hn=>kk8 (cl6 n hn) (ne_of_none x4 (D5.fr n hn)).symm
  have dl8:∀ n ∈ ns,H8 (la kd n) = some (.lst []):=fun n hn=>k8 _ _ (c7 n hn) (nin (ne_of_none x6 (D7.fr n hn)).symm)
  have pin8:∀ q ∈ qs,PairIn H8 q:=fun q hq=>kk8 (kk6 (pin4 q hq) (ne_of (pin4 q hq) x4 (by intro z; cases z))) (ne_of (pin4 q hq) x4 (by intro z; cases z))
  have dif:∀ n ∈ ns,∀ m ∈ ns,la kc n ≠ la kd m:=fun n hn m hm=>ne_of_none (cl6 n hn) (D7.fr m hm)
  have old4:∀ {b:Addr} {o:HO},H4 b = some o->b ≠ x->(∀ n ∈ ns,b ≠ la kc n)/\∀ n ∈ ns,b ≠ la kd n:=fun e hb=>⟨fun n hn=>ne_of_none e (D5.fr n hn),fun n hn=>ne_of_none (kk6 e hb) (D7.fr n hn)⟩
  have kall:Sm [x] H H8:=fun b o e hb=>by
   have hb':b ≠ x:=fun z=>hb (by simp [z])
   exact kk8 (kk6 (k4 _ _ (k3 _ _ e hb) hb) hb') hb'
  have odif:∀ {b:Addr} {o:HO},H b = some o->b ≠ x->(∀ n ∈ ns,b ≠ la kc n)/\∀ n ∈ ns,b ≠ la kd n:=fun e hb=>old4 (k4 _ _ (k3 _ _ e (nin hb)) (nin hb)) hb
  have xdif:(∀ n ∈ ns,x ≠ la kc n)/\∀ n ∈ ns,x ≠ la kd n:=⟨fun n hn=>ne_of_none x4 (D5.fr n hn),fun n hn=>ne_of_none x6 (D7.fr n hn)⟩
  have cdif:(∀ n ∈ ns,c ≠ la kc n)/\∀ n ∈ ns,c ≠ la kd n:=⟨fun n hn=>(n5 n hn).symm,fun n hn=>ne_of_none c6 (D7.fr n hn)⟩
  have ddif:(∀ n ∈ ns,d ≠ la kc n)/\∀ n ∈ ns,d ≠ la kd n:=⟨fun n hn=>(ne_of_none (cl6 n hn) hd).symm,fun n hn=>(n7 n hn).symm⟩
  refine ⟨_,rfl,x,T.CWeb,dx,_,_,rfl,x8,T.clWeb,T.nWeb_strikes,rfl,l2,rfl,⟨_,SqL.of g8⟩,for_asG (asL (SqL.of g8)) (fun i σ H9=>(∃ v3 v4,σ = [some (.ref x),some (.ref n),some (.ref a),v3,v4]) /\
   (∀ b o,H8 b = some o->((∀ n ∈ ns,b ≠ la kc n)/\∀ n ∈ ns,b ≠ la kd n)->H9 b = some o)/\(∀ n ∈ ns,H9 (la kc n) = some (.lst ((strikersOf (qs.take i) n).map V.str)))/\∀ n ∈ ns,H9 (la kd n) = some (.lst ((struckOf (qs.take i) n).map V.str)))
   ⟨⟨_,_,rfl⟩,fun b o e _=>e,cl8,dl8⟩ ?_ ?_ ?_⟩
  ·intro i σ H9 _ zq50 o e
   refine o0_3 zq50 fun _ h1 _=>?_
   exact h1 _ _ e (old4 e4 nx2.symm)
  ·intro i σ H9 v hv zq51 D1 hD1 _
   refine o0_4 zq51 fun zq52 h1 h2 h3=>?_
   refine o2_1 zq52 fun v3 v4 zq53=>?_
   subst zq53
   unfold refs at hv
   rw [List.getElem?_map] at hv
   cases hq:qs[i]? with
   | none=>rw [hq] at hv; cases hv
   | some q =>
    rw [hq] at hv
    cases hv
    have hm:q ∈ qs:=List.mem_of_getElem? hq
    have hq9:PairIn H9 q:=h1 _ _ (pin8 q hm) (old4 (pin4 q hm) (ne_of (pin4 q hm) x4 (by intro z; cases z)))
    refine o0_2 (hO1 q (p2.mem_iff.mp hm)) fun m1 m2=>?_
    have m1:q.2.1 ∈ ns:=p1.mem_iff.mpr m1
    have m2:q.2.2 ∈ ns:=p1.mem_iff.mpr m2
    have hlen:∀ l:List PA2,l.length<=200->∀ n,(strikersOf l n).length<=200/\(struckOf l n).length<=200:=fun l hl n=>by
     unfold strikersOf struckOf
     rw [List.length_map,List.length_map]
     exact ⟨Nat.le_trans (List.length_filter_le ..) hl,Nat.le_trans (List.length_filter_le ..) hl⟩
    have hl200:(qs.take i).length<=200:=by
     rw [List.length_take]
     have:=p2.length_eq
     lia
    have x9:H9 x = some (.ins T.CWeb dx (wf l1 l2 c d)):=h1 _ _ x8 xdif
    refine ⟨q.1,ex1 rfl ⟨SqT.of hq9,rfl,_,ex1 rfl (ex2_3 rfl rfl ?_)⟩⟩
    refine ex1 rfl ⟨x,T.CWeb,dx,_,ex1 rfl ⟨x9,T.clWeb,T.nWeb_strikers_by_name,rfl,ex1 rfl ⟨c,.ref (la kc q.2.2),rfl,by rw [<-D5.val _ m2]; exact DGet.k (k:=Sum.inr q.2.2) (h1 _ _ c8 cdif),.inl ⟨rfl,_,SqL.of (h2 _ m2)⟩,ex1 rfl ⟨_,ex2_3 rfl rfl ⟨h2 _ m2,?_,?_⟩⟩⟩⟩⟩
    ·rw [List.length_map,sizeLine_eq]
     have:=(hlen _ hl200 q.2.2).1
     lia
    have x10:(upd H9 (la kc q.2.2) (.lst ((strikersOf (qs.take i) q.2.2).map V.str ++ [.str q.2.1]))) x = some (.ins T.CWeb dx (wf l1 l2 c d)):=by rw [upd_ne (xdif.1 _ m2)]; exact x9
    have d10:(upd H9 (la kc q.2.2) (.lst ((strikersOf (qs.take i) q.2.2).map V.str ++ [.str q.2.1]))) d = some (.dK kd):=by rw [upd_ne (ddif.1 _ m2)]; exact h1 _ _ d8 ddif
    have l10:(upd H9 (la kc q.2.2) (.lst ((strikersOf (qs.take i) q.2.2).map V.str ++ [.str q.2.1]))) (la kd q.2.1) = some (.lst ((struckOf (qs.take i) q.2.1).map V.str)):=by rw [upd_ne (dif _ m2 _ m1).symm]; exact h3 _ m1
    refine ex1 rfl ⟨x,T.CWeb,dx,_,ex1 rfl ⟨x10,T.clWeb,T.nWeb_struck_by_name,rfl,ex1 rfl ⟨d,.ref (la kd q.2.1),rfl,by rw [<-D7.val _ m1]; exact DGet.k (k:=Sum.inr q.2.1) d10,.inl ⟨rfl,_,SqL.of l10⟩,ex1 rfl ⟨_,ex2_3 rfl rfl ⟨l10,?_,?_⟩⟩⟩⟩⟩
    ·rw [List.length_map,sizeLine_eq]
     have:=(hlen _ hl200 q.2.1).2
     lia
    refine hD1 _ _ ⟨⟨_,_,rfl⟩,fun b o e hb=>?_,fun m hm=>?_,fun m hm=>?_⟩
    ·rw [upd_ne (hb.2 _ m1),upd_ne (hb.1 _ m2)]
     exact h1 b o e hb
    ·rw [upd_ne (dif m hm _ m1),take_succ hq,strikersOf_snoc]
     by_cases e:q.2.2 = m
     ·rw [<-e,upd_same,if_pos rfl,List.map_append]; rfl
     ·rw [if_neg e,List.append_nil,upd_ne (fun z=>e (D5.inj _ hm _ m2 z).symm)]
      exact h2 m hm
    ·rw [take_succ hq,struckOf_snoc]
     by_cases e:q.2.1 = m
     ·rw [<-e,upd_same,if_pos rfl,List.map_append]; rfl
     ·rw [if_neg e,List.append_nil,upd_ne (fun z=>e (D7.inj _ hm _ m1 z).symm),upd_ne (dif _ m2 _ hm).symm]
      exact h3 m hm
  ·intro σ H9 zq54
   refine o0_4 zq54 fun _ h1 h2 h3=>?_
   have hlq:(refs qs).length = qs.length:=by unfold refs; rw [List.length_map]
   rw [hlq,List.take_length] at h2 h3
   refine k ns qs H9 p1 w1 p2 w2 (fun b o e hb=>?_) ⟨⟨ndn,by rw [p1.length_eq]; exact hN3,w1,fun q hq=>⟨p1.mem_iff.mpr (hO1 q (p2.mem_iff.mp hq)).1,p1.mem_iff.mpr (hO1 q (p2.mem_iff.mp hq)).2⟩,(p2.map _).nodup_iff.mpr hO2,by rw [p2.length_eq]; exact hO3,w2⟩,dx,l1,l2,c,d,kc,kd,h1 _ _ x8 xdif,h1 _ _ f8 (old4 f4 nx1.symm),h1 _ _ g8 (old4 e4 nx2.symm),fun q hm=>h1 _ _ (pin8 q hm) (old4 (pin4 q hm) (ne_of (pin4 q hm) x4 (by intro z; cases z))),h1 _ _ c8 cdif,h1 _ _ d8 ddif,fun n hn=>⟨_,D5.val n hn,h2 n hn⟩,fun n hn=>⟨_,D7.val n hn,h3 n hn⟩⟩
   have hb':b ≠ x:=fun z=>hb (by simp [z])
   exact h1 _ _ (kall b o e hb) (odif e hb')
end
end Sw
namespace Sw
open PySem L2
theorem WebAt.same {C:Addr} {H H':Hp} {x:Addr} {ns:List Str} {qs:List PA2} (h:WebAt C H x ns qs) (s:Same H H'):WebAt C H' x ns qs:=by
 obtain ⟨ok,dx,a,b,c,d,kc,kd,e1,e2,e3,e4,e5,e6,e7,e8⟩:=h
 exact ⟨ok,dx,a,b,c,d,kc,kd,s _ _ e1,s _ _ e2,s _ _ e3,same_pairs s e4,s _ _ e5,s _ _ e6,fun n hn=>let ⟨l,v,e⟩:=e7 n hn; ⟨l,v,s _ _ e⟩,fun n hn=>let ⟨l,v,e⟩:=e8 n hn; ⟨l,v,s _ _ e⟩⟩
section
variable {P:Program} {w:World} {K:PySem.W.Frag} {mg:Str->Option Value} {base:Heap}
theorem sc_Web_all_names:FnScope ["self"] ["self"] (defScope s_Web_all_names):=⟨rfl,rfl,rfl,by decide +kernel,rfl,by decide +kernel,by decide +kernel⟩
noncomputable def sp_all_names (C:Addr):Sp:=fun vs H Q _=>∃ (x:Addr) (ns:List Str) (qs:List PA2),vs = [.ref x]/\WebAt C H x ns qs/\∀ l,H l = none->Q (.ref l) (upd H l (.lst (ns.map V.str)))
theorem ok_Web_all_names (T:Tx K mg):FnOk P w K mg base CX0 1 T.mWeb_all_names.f T.mWeb_all_names.fd ["self"] (sp_all_names T.CWeb):=by
 refine T.mWeb_all_names.F.ok sc_Web_all_names (fun vs H Q E h=>?_) (fun cdv A outer s H vs Q E hr h=>?_)
 ·refine o3_2 h fun x ns qs zq55 _=>?_
  try clear h
  subst zq55
  rfl
 ·refine o3_3 h fun x ns qs zq56 zq57 k=>?_
  try clear h
  subst zq56
  obtain ⟨ok,dx,a,b,c,d,kc,kd,e1,e2,e3,e4,e5,e6,e7,e8⟩:=zq57
  refine ⟨_,(pss_one (ps_ret (pe_bt (cl_list K) T.b_list bt_list (pa_cons (peF K (pv 0)) pa_nil)))),?_⟩
  exact ⟨_,rfl,x,T.CWeb,dx,_,_,rfl,e1,T.clWeb,T.nWeb_names,rfl,a,_,rfl,.inl (SqL.of e2),k⟩
theorem sc_Web_all_strikes:FnScope ["self"] ["self"] (defScope s_Web_all_strikes):=⟨rfl,rfl,rfl,by decide +kernel,rfl,by decide +kernel,by decide +kernel⟩
noncomputable def sp_all_strikes (C:Addr):Sp:=fun vs H Q _=>∃ (x:Addr) (ns:List Str) (qs:List PA2),vs = [.ref x]/\WebAt C H x ns qs/\∀ l,H l = none->Q (.ref l) (upd H l (.lst (refs qs)))
theorem ok_Web_all_strikes (T:Tx K mg):FnOk P w K mg base CX0 1 T.mWeb_all_strikes.f T.mWeb_all_strikes.fd ["self"] (sp_all_strikes T.CWeb):=by
 refine T.mWeb_all_strikes.F.ok sc_Web_all_strikes (fun vs H Q E h=>?_) (fun cdv A outer s H vs Q E hr h=>?_)
 ·refine o3_2 h fun x ns qs zq58 _=>?_
  try clear h
  subst zq58
  rfl
 ·refine o3_3 h fun x ns qs zq59 zq60 k=>?_
  try clear h
  subst zq59
  obtain ⟨ok,dx,a,b,c,d,kc,kd,e1,e2,e3,e4,e5,e6,e7,e8⟩:=zq60
  refine ⟨_,(pss_one (ps_ret (pe_bt (cl_list K) T.b_list bt_list (pa_cons (peF K (pv 0)) pa_nil)))),?_⟩
  exact ⟨_,rfl,x,T.CWeb,dx,_,_,rfl,e1,T.clWeb,T.nWeb_strikes,rfl,b,_,rfl,.inl (SqL.of e3),k⟩
theorem sc_Web_check_has:FnScope ["self", "name"] ["self", "name"] (defScope s_Web_check_has):=⟨rfl,rfl,rfl,by decide +kernel,rfl,by decide +kernel,by decide +kernel⟩
noncomputable def sp_check_has (C:Addr):Sp:=fun vs H Q _=>∃ (x:Addr) (n:Str) (ns:List Str) (qs:List PA2),vs = [.ref x,.str n]/\WebAt C H x ns qs/\n ∈ ns/\Q .non H
theorem ok_Web_check_has (T:Tx K mg):FnOk P w K mg base CX0 1 T.mWeb_check_has.f T.mWeb_check_has.fd ["self", "name"] (sp_check_has T.CWeb):=by
 refine T.mWeb_check_has.F.ok sc_Web_check_has (fun vs H Q E h=>?_) (fun cdv A outer s H vs Q E hr h=>?_)
 ·refine o4_2 h fun x n ns qs zq61 _=>?_
  try clear h
  subst zq61
  rfl
 ·refine o4_4 h fun x n ns qs zq62 zq63 hn k=>?_
  try clear h
  subst zq62
  obtain ⟨ok,dx,a,b,c,d,kc,kd,e1,e2,e3,e4,e5,e6,e7,e8⟩:=zq63
  refine ⟨_,(pss_one (ps_if (pt_cmpR (o_notInL K) (pv 1) (peF K (pv 0)) rfl) (pss_one ps_never) pss_nil)),?_⟩
  refine ex1 rfl (ex1 rfl ⟨x,T.CWeb,dx,_,ex1 rfl ⟨e1,T.clWeb,T.nWeb_names,rfl,notInL_str (.inl (SqL.of e2)) ⟨_,rfl,?_⟩⟩⟩)
  rw [decide_eq_true hn]
  exact iteF k
end
end Sw
namespace Sw
open PySem L2
section
variable {P:Program} {w:World} {K:PySem.W.Frag} {mg:Str->Option Value} {base:Heap}
theorem sc_Web_struck:FnScope ["self", "name"] ["self", "name"] (defScope s_Web_struck):=⟨rfl,rfl,rfl,by decide +kernel,rfl,by decide +kernel,by decide +kernel⟩
noncomputable def sp_struck (C:Addr):Sp:=fun vs H Q _=>∃ (x:Addr) (n:Str) (ns:List Str) (qs:List PA2),vs = [.ref x,.str n]/\WebAt C H x ns qs/\n ∈ ns/\∀ l,H l = none->Q (.ref l) (upd H l (.lst ((struckOf qs n).map V.str)))
theorem ok_Web_struck (T:Tx K mg):FnOk P w K mg base CX0 2 T.mWeb_struck.f T.mWeb_struck.fd ["self", "name"] (sp_struck T.CWeb):=by
 have G_Web_check_has:FnOk P w K mg base CX0 1 T.mWeb_check_has.f T.mWeb_check_has.fd ["self", "name"] (sp_check_has T.CWeb):=ok_Web_check_has T
 refine T.mWeb_struck.F.ok sc_Web_struck (fun vs H Q E h=>?_) (fun cdv A outer s H vs Q E hr h=>?_)
 ·refine o4_2 h fun x n ns qs zq64 _=>?_
  try clear h
  subst zq64
  rfl
 ·refine o4_4 h fun x n ns qs zq65 hW hn k=>?_
  try clear h
  subst zq65
  have hu:=hu_of hr
  obtain ⟨ok,dx,a,b,c,d,kc,kd,e1,e2,e3,e4,e5,e6,e7,e8⟩:=(id hW)
  refine ⟨_,(pss_cons (ps_expr (pe_meth (pv 0) T.clWeb T.mWeb_check_has.m G_Web_check_has (hr.mono (by decide)) T.mWeb_check_has.b .nil pass0 (pa_cons (pv 1) pa_nil)))
   (pss_one (ps_ret (pe_bt (cl_list K) T.b_list bt_list (pa_cons (pe_dget hu (peF K (pv 0)) (pv 1) (fun _ _=>rfl)) pa_nil))))),?_⟩
  refine ex1 rfl ⟨x,dx,ex1 rfl ⟨e1,rfl,ex1 rfl ⟨x,n,ns,qs,rfl,hW,hn,?_⟩⟩⟩
  refine o1_2 (e8 n hn) fun l v e=>?_
  exact ⟨_,rfl,x,T.CWeb,dx,_,_,rfl,e1,T.clWeb,T.nWeb_struck_by_name,rfl,_,rfl,d,_,rfl,by rw [<-v]; exact DGet.k (k:=Sum.inr n) e6,l,_,rfl,.inl (SqL.of e),k⟩
end
end Sw
namespace Sw
open PySem L2
section
variable {P:Program} {w:World} {K:PySem.W.Frag} {mg:Str->Option Value} {base:Heap}
theorem sc_Web_strikers:FnScope ["self", "name"] ["self", "name"] (defScope s_Web_strikers):=⟨rfl,rfl,rfl,by decide +kernel,rfl,by decide +kernel,by decide +kernel⟩
noncomputable def sp_strikers (C:Addr):Sp:=fun vs H Q _=>∃ (x:Addr) (n:Str) (ns:List Str) (qs:List PA2),vs = [.ref x,.str n]/\WebAt C H x ns qs/\n ∈ ns/\∀ l,H l = none->Q (.ref l) (upd H l (.lst ((strikersOf qs n).map V.str)))
theorem ok_Web_strikers (T:Tx K mg):FnOk P w K mg base CX0 2 T.mWeb_strikers.f T.mWeb_strikers.fd ["self", "name"] (sp_strikers T.CWeb):=by
 have G_Web_check_has:FnOk P w K mg base CX0 1 T.mWeb_check_has.f T.mWeb_check_has.fd ["self", "name"] (sp_check_has T.CWeb):=ok_Web_check_has T
 refine T.mWeb_strikers.F.ok sc_Web_strikers (fun vs H Q E h=>?_) (fun cdv A outer s H vs Q E hr h=>?_)
 ·refine o4_2 h fun x n ns qs zq66 _=>?_
  try clear h
  subst zq66
  rfl
 ·refine o4_4 h fun x n ns qs zq67 hW hn k=>?_
  try clear h
  subst zq67
  have hu:=hu_of hr
  obtain ⟨ok,dx,a,b,c,d,kc,kd,e1,e2,e3,e4,e5,e6,e7,e8⟩:=(id hW)
  refine ⟨_,(pss_cons (ps_expr (pe_meth (pv 0) T.clWeb T.mWeb_check_has.m G_Web_check_has (hr.mono (by decide)) T.mWeb_check_has.b .nil pass0 (pa_cons (pv 1) pa_nil)))
   (pss_one (ps_ret (pe_bt (cl_list K) T.b_list bt_list (pa_cons (pe_dget hu (peF K (pv 0)) (pv 1) (fun _ _=>rfl)) pa_nil))))),?_⟩
  refine ex1 rfl ⟨x,dx,ex1 rfl ⟨e1,rfl,ex1 rfl ⟨x,n,ns,qs,rfl,hW,hn,?_⟩⟩⟩
  refine o1_2 (e7 n hn) fun l v e=>?_
  exact ⟨_,rfl,x,T.CWeb,dx,_,_,rfl,e1,T.clWeb,T.nWeb_strikers_by_name,rfl,_,rfl,c,_,rfl,by rw [<-v]; exact DGet.k (k:=Sum.inr n) e5,l,_,rfl,.inl (SqL.of e),k⟩
end
end Sw
namespace Sw
open PySem L2
theorem mem_addS {l:List Str} {k y:Str}:y ∈ addS l k ↔ y ∈ l\/y = k:=by
 unfold addS
 by_cases h:k ∈ l
 ·rw [if_pos h]
  exact ⟨.inl,fun z=>z.elim id fun e=>e ▸ h⟩
 ·rw [if_neg h,List.mem_append,List.mem_singleton]
theorem nd_addS {l:List Str} {k:Str} (nd:l.Nodup):(addS l k).Nodup:=by
 unfold addS
 by_cases h:k ∈ l
 ·rw [if_pos h]; exact nd
 ·rw [if_neg h]; exact nd_snoc nd h
theorem len_addS (l:List Str) (k:Str):(addS l k).length<=l.length + 1:=by
 unfold addS
 split
 ·lia
 ·rw [List.length_append]; simp
theorem sw_loop {w:World} {J:It} {a D:Addr} {ys:List Str} {H0 H:Hp} {n:Nat} {σ:St} {Q:St->Hp->Prop} {Sg:St->Prop} {i0:Nat} (as:AsSeq J (ys.map V.str) a H) (hσ:Sg σ) (hS:∀ σ v,Sg σ->Sg (σ.set i0 (some v))/\(σ.set i0 (some v))[i0]? = some (some v)) {l:List Str} (hD:H D = some (SetW w D l)) (haD:a ≠ D) (nd:l.Nodup) (hl:l.length + ys.length<=4000)
  (hs:Same H0 H) (hD0:H0 D = none) (q:∀ σ l' H',Sg σ->Same H0 H'->H' D = some (SetW w D l')->l'.Nodup->l'.length<=l.length + ys.length->(∀ y,y ∈ l' ↔ y ∈ l\/y ∈ ys)->Q σ H') :
  Loop (gName i0) tTrue (emSetW w D (tVar i0)) J σ H Q:=by
 refine loop_as as (fun i σ H1=>Sg σ/\Same H0 H1/\(∀ o,H a = some o->H1 a = some o)/\∃ l',H1 D = some (SetW w D l')/\l'.Nodup/\l'.length<=l.length + i/\∀ y,y ∈ l' ↔ y ∈ l\/y ∈ ys.take i)
  ⟨hσ,hs,fun _ e=>e,l,hD,nd,Nat.le_refl _,fun y=>by simp⟩ (fun i σ H1 _ ⟨_,_,k,_⟩=>k) ?_ ?_
 ·intro i σ H1 x N hx zq68 hN
  obtain ⟨hσ1,s1,ka,l',e1,n1,l1,m1⟩:=zq68
  rw [List.getElem?_map] at hx
  cases hy:ys[i]? with
  | none=>rw [hy] at hx; cases hx
  | some y =>
   rw [hy] at hx
   cases hx
   have hi:=(List.getElem?_eq_some_iff.mp hy).1
   refine g_true ?_
   refine ⟨_,(hS σ _ hσ1).2,l',y,rfl,e1,by lia,hN _ _ ⟨(hS σ _ hσ1).1,s1.upd hD0,fun o e=>?_,addS l' y,upd_same,nd_addS n1,?_,fun z=>?_⟩⟩
   ·rw [upd_ne haD]; exact ka o e
   ·have:=len_addS l' y
    lia
   ·rw [mem_addS,m1,take_succ hy,List.mem_append,List.mem_singleton,or_assoc]
 ·intro σ H1 zq69
  obtain ⟨hσ1,s1,ka,l',e1,n1,l1,m1⟩:=zq69
  rw [List.length_map] at l1 m1
  rw [List.take_length] at m1
  exact q σ l' H1 hσ1 s1 e1 n1 l1 m1
theorem mem_struckOf {qs:List PA2} {n y:Str}:y ∈ struckOf qs n ↔ ∃ q ∈ qs,q.2.1 = n/\q.2.2 = y:=by
 unfold struckOf
 rw [List.mem_map]
 constructor
 ·intro zq70
  refine o1_2 zq70 fun q hq e=>?_
  refine o0_2 (List.mem_filter.mp hq) fun h1 h2=>?_
  exact ⟨q,h1,of_decide_eq_true h2,e⟩
 ·intro zq71
  refine o1_3 zq71 fun q h1 h2 h3=>?_
  exact ⟨q,List.mem_filter.mpr ⟨h1,decide_eq_true h2⟩,h3⟩
theorem mem_strikersOf {qs:List PA2} {n y:Str}:y ∈ strikersOf qs n ↔ ∃ q ∈ qs,q.2.2 = n/\q.2.1 = y:=by
 unfold strikersOf
 rw [List.mem_map]
 constructor
 ·intro zq72
  refine o1_2 zq72 fun q hq e=>?_
  refine o0_2 (List.mem_filter.mp hq) fun h1 h2=>?_
  exact ⟨q,h1,of_decide_eq_true h2,e⟩
 ·intro zq73
  refine o1_3 zq73 fun q h1 h2 h3=>?_
  exact ⟨q,List.mem_filter.mpr ⟨h1,decide_eq_true h2⟩,h3⟩
theorem len_struckOf (qs:List PA2) (n:Str):(struckOf qs n).length<=qs.length:=by
 unfold struckOf
 rw [List.length_map]
 exact List.length_filter_le ..
theorem len_strikersOf (qs:List PA2) (n:Str):(strikersOf qs n).length<=qs.length:=by
 unfold strikersOf
 rw [List.length_map]
 exact List.length_filter_le ..
end Sw
namespace Sw
open PySem L2
section
variable {P:Program} {w:World} {K:PySem.W.Frag} {mg:Str->Option Value} {base:Heap}
theorem sc_struck_by_any:FnScope ["web", "some"] ["web", "some"] (defScope s_struck_by_any):=⟨rfl,rfl,rfl,by decide +kernel,rfl,by decide +kernel,by decide +kernel⟩
noncomputable def sp_any (K:PySem.W.Frag) (C:Addr) (f:List PA2->Str->List Str):Sp:=fun vs H Q _=>∃ (x a:Addr) (ss ns:List Str) (qs:List PA2),vs = [.ref x,.ref a]/\WebAt C H x ns qs/\Sqs K H a (ss.map V.str)/\(∀ n ∈ ss,n ∈ ns) /\
 ∀ l (hs:List Str) H',H l = none->Same H H'->H' l = some (.lst (hs.map V.str))->(∀ y,y ∈ hs ↔ ∃ n ∈ ss,y ∈ f qs n)->hs.Pairwise leS->hs.Nodup->hs.length<=100->Q (.ref l) H'
theorem ok_struck_by_any (T:Tx K mg):FnOk P w K mg base CX0 3 T.struck_by_any.f T.struck_by_any.fd ["web", "some"] (sp_any K T.CWeb struckOf):=by
 have G_Web_struck:FnOk P w K mg base CX0 2 T.mWeb_struck.f T.mWeb_struck.fd ["self", "name"] (sp_struck T.CWeb):=ok_Web_struck T
 refine T.struck_by_any.F.ok sc_struck_by_any (fun vs H Q E h=>?_) (fun cdv A outer s H vs Q E hr h=>?_)
 ·refine o5_2 h fun x a ss ns qs zq74 _=>?_
  try clear h
  subst zq74
  rfl
 ·refine o5_5 h fun x a ss ns qs zq75 hW hS hM k=>?_
  try clear h
  subst zq75
  have hu:=hu_of hr
  obtain ⟨ok,dx,a1,b,c,d,kc,kd,e1,_⟩:=(id hW)
  have hsub:∀ l:List Str,l.Nodup->(∀ y ∈ l,∃ n ∈ ss,y ∈ struckOf qs n)->l.length<=100:=fun l nd h=>by
   refine Nat.le_trans (nd.length_le_of_subset fun y hy=>?_) ok.len
   refine o1_2 (h y hy) fun n _ hy'=>?_
   refine o1_3 (mem_struckOf.mp hy') fun q hq _ e=>?_
   rw [<-e]
   exact (ok.mem q hq).2
  refine ⟨_,(pss_one (ps_ret (pe_bf (cl_sortW w) T.b_sorted bt_sorted (pa_cons (peSC2 w (N':=["name", "other", "web"]) (cap:=[none,none,some 0]) (cl:=[("web",_)]) (cs_mk ⟨⟨rfl,rfl,rfl,rfl⟩,trivial⟩ ⟨rfl,trivial⟩) (piS K (pv 1)) (fun _ _ _ _=>by exact ⟨(pgC 0),pts_nil,(piL K (pe_meth (pv 2) T.clWeb T.mWeb_struck.m G_Web_struck (hr.mono (by decide)) T.mWeb_struck.b .nil pass0 (pa_cons (pv 0) pa_nil))),(pgC 1),pts_nil,(pv 1)⟩)) pa_nil)))),?_⟩
  dsimp only [tSeq,tAsg,gName,tRet,tCB,tCons,tNil]
  refine comp_seq (by rfl) hS ?_
  intro J as D hD
  refine loop_as as (fun i σ H1=>(∃ v0 v1,σ = [v0,v1,some (.ref x)])/\Same H H1/\∃ l,H1 D = some (SetW w D l)/\l.Nodup/\∀ y,y ∈ l ↔ ∃ n ∈ ss.take i,y ∈ struckOf qs n)
   ⟨⟨_,_,rfl⟩,Same.new hD,[],upd_same,List.nodup_nil,fun y=>by simp⟩ (fun i σ H1 _ ⟨_,s1,_⟩=>s1.at a) ?_ ?_
  ·intro i σ H1 v N hx zq76 hN
   obtain ⟨zq77,s1,l,e2,n2,m2⟩:=zq76
   refine o2_1 zq77 fun v0 v1 zq78=>?_
   subst zq78
   rw [List.getElem?_map] at hx
   cases hy:ss[i]? with
   | none=>rw [hy] at hx; cases hx
   | some n =>
    rw [hy] at hx
    cases hx
    have hn:n ∈ ns:=hM n (List.mem_of_getElem? hy)
    have hl100:l.length<=100:=hsub l n2 fun y hy=>by
     refine o1_2 ((m2 y).mp hy) fun m hm h=>?_
     exact ⟨m,List.mem_of_mem_take hm,h⟩
    refine g_true ?_
    refine ex1 rfl ⟨x,dx,ex1 rfl ⟨s1 _ _ e1,rfl,ex1 rfl ⟨x,n,ns,qs,rfl,hW.same s1,hn,fun p hp=>?_⟩⟩⟩
    have npD:D ≠ p:=ne_of_none e2 hp
    refine ⟨p,rfl,⟨_,SqL.of upd_same⟩,sw_loop (H0:=H) (n:=0) (asL (SqL.of upd_same)) (Sg:=fun σ=>∃ v0 v1,σ = [v0,v1,some (.ref x)]) ⟨_,_,rfl⟩ (fun σ v ⟨v0,v1,e⟩=>by rw [e]; exact ⟨⟨_,_,rfl⟩,rfl⟩) (by rw [upd_ne npD]; exact e2) npD.symm n2 ?_ (s1.trans (Same.new hp)) hD ?_⟩
    ·have:=len_struckOf qs n
     have:=ok.lenq
     lia
    ·rintro σ l' H2 hσ s2 e3 n3 _ m3
     refine hN _ _ ⟨hσ,s2,l',e3,n3,fun y=>?_⟩
     rw [m3,m2,take_succ hy]
     constructor
     ·rintro (⟨m,hm,h⟩ | h)
      ·exact ⟨m,List.mem_append_left _ hm,h⟩
      ·exact ⟨n,List.mem_append_right _ (List.mem_singleton.mpr rfl),h⟩
     ·intro zq79
      refine o1_2 zq79 fun m hm h=>?_
      rcases List.mem_append.mp hm with z | z
      ·exact .inl ⟨m,z,h⟩
      ·rw [List.mem_singleton.mp z] at h; exact .inr h
  ·intro σ H1 zq80
   obtain ⟨_,s1,l,e2,n2,m2⟩:=zq80
   rw [List.length_map,List.take_length] at m2
   refine ⟨D,l,rfl,e2,fun p hs hp pm srt=>?_⟩
   have s2:Same H (upd H1 p (.lst (hs.map V.str))):=s1.trans (Same.new hp)
   exact k p hs _ (s1.free hp) s2 upd_same (fun y=>by rw [pm.mem_iff]; exact m2 y) srt (pm.nodup_iff.mpr n2) (by rw [pm.length_eq]; exact hsub l n2 fun y hy=>(m2 y).mp hy)
end
end Sw
namespace Sw
open PySem L2
noncomputable def Strk (qs:List PA2) (a b:Str):Prop:=∃ q ∈ qs,q.2.1 = a/\q.2.2 = b
theorem strk_struck {qs:List PA2} {a b:Str}:b ∈ struckOf qs a ↔ Strk qs a b:=mem_struckOf
instance (qs:List PA2) (a b:Str):Decidable (Strk qs a b):=inferInstanceAs (Decidable (∃ q ∈ qs,q.2.1 = a/\q.2.2 = b))
noncomputable def quietB (qs:List PA2) (ss:List Str):Bool:=ss.all fun n=>decide (¬ ∃ m ∈ ss,Strk qs m n)
noncomputable def sp_bool (K:PySem.W.Frag) (C:Addr) (f:List Str->List PA2->List Str->Bool):Sp:=fun vs H Q _=>∃ (x a:Addr) (ss ns:List Str) (qs:List PA2),vs = [.ref x,.ref a]/\WebAt C H x ns qs/\Sqs K H a (ss.map V.str)/\(∀ n ∈ ss,n ∈ ns)/\ss.length<=100 /\
 ∀ H',Same H H'->Q (.bl (f ns qs ss)) H'
noncomputable def sp_truth (K:PySem.W.Frag) (C:Addr) (f:List Str->List PA2->List Str->Prop):Sp:=fun vs H Q _=>∃ (x a:Addr) (ss ns:List Str) (qs:List PA2),vs = [.ref x,.ref a]/\WebAt C H x ns qs/\Sqs K H a (ss.map V.str)/\(∀ n ∈ ss,n ∈ ns)/\ss.length<=100 /\
 ∀ (b:Bool) H',(b = true ↔ f ns qs ss)->Same H H'->Q (.bl b) H'
noncomputable def QuietP (qs:List PA2) (ss:List Str):Prop:=∀ m ∈ ss,∀ n ∈ ss,¬ Strk qs m n
noncomputable def BackP (qs:List PA2) (ss:List Str):Prop:=∀ x,∀ n ∈ ss,Strk qs x n->∃ m ∈ ss,Strk qs m x
theorem quietB_iff {qs:List PA2} {ss:List Str}:quietB qs ss = true ↔ QuietP qs ss:=by
 unfold quietB QuietP
 rw [List.all_eq_true]
 constructor
 ·intro h m hm n hn hs
  exact of_decide_eq_true (h n hn) ⟨m,hm,hs⟩
 ·intro h n hn
  refine decide_eq_true ?_
  intro zq1
  refine o1_2 zq1 fun m hm hs=>?_
  exact h m hm n hn hs
theorem strk_strikers {qs:List PA2} {a b:Str}:a ∈ strikersOf qs b ↔ Strk qs a b:=by
 unfold strikersOf Strk
 rw [List.mem_map]
 constructor
 ·intro zq2
  refine o1_2 zq2 fun q hq zq3=>?_
  subst zq3
  refine o0_2 (List.mem_filter.mp hq) fun h1 h2=>?_
  exact ⟨q,h1,rfl,of_decide_eq_true h2⟩
 ·intro zq4
  refine o1_3 zq4 fun q hq zq5 zq6=>?_
  subst zq5
  subst zq6
  exact ⟨q,List.mem_filter.mpr ⟨hq,decide_eq_true rfl⟩,rfl⟩
end Sw
namespace Sw
open PySem L2
section
variable {P:Program} {w:World} {K:PySem.W.Frag} {mg:Str->Option Value} {base:Heap}
theorem sc_is_quiet:FnScope ["web", "some", "hit"] ["web", "some"] (defScope s_is_quiet):=⟨rfl,rfl,rfl,by decide +kernel,rfl,by decide +kernel,by decide +kernel⟩
theorem ok_is_quiet (T:Tx K mg):FnOk P w K mg base CX0 4 T.is_quiet.f T.is_quiet.fd ["web", "some"] (sp_bool K T.CWeb fun _=>quietB):=by
 have G_struck_by_any:FnOk P w K mg base CX0 3 T.struck_by_any.f T.struck_by_any.fd ["web", "some"] (sp_any K T.CWeb struckOf):=ok_struck_by_any T
 have sc:=sc_is_quiet
 refine T.is_quiet.F.ok sc_is_quiet (fun vs H Q E h=>?_) (fun cdv A outer s H vs Q E hr h=>?_)
 ·refine o5_2 h fun x a ss ns qs zq7 _=>?_
  try clear h
  subst zq7
  rfl
 ·refine o5_6 h fun x a ss ns qs zq8 hW hS hM hl k=>?_
  try clear h
  subst zq8
  refine ⟨_,(pss_cons (ps_set (i:=2) sc.nd rfl (by first | exact Or.inl rfl | exact Or.inr rfl) (pe_fn T.struck_by_any G_struck_by_any (hr.mono (by decide)) (pa_cons (pv 0) (pa_cons (pv 1) pa_nil))))
   (pss_one (ps_ret (pe_bf (cl_all K) T.b_all bt_all (pa_cons (pe_lc (N':=["name", "hit"]) (cap:=[none,some 2]) (cl:=[("hit",_)]) (cs_mk ⟨⟨rfl,rfl,rfl,rfl⟩,trivial⟩ ⟨rfl,trivial⟩) rfl (piS K (pv 1)) (fun _ _ _ _=>by exact ⟨(pgC 0),pts_nil,(pe_cmpR (o_notInL K) (pv 0) (pv 1) rfl)⟩)) pa_nil))))),?_⟩
  refine ex1 rfl (ex1 rfl (ex5_5 (a:=x) (b:=a) (c:=ss) (d:=ns) (e:=qs) rfl hW hS hM fun l hs H1 hl0 s1 e1 m1 _ _ _=>?_))
  dsimp only [tSeq,tAsg,gName,tRet,tCB,tCons,tNil]
  refine comp_seq (by rfl) ((s1.at a).seq hS) ?_
  intro J as D hD
  refine loop_as as (fun i σ H2=>(∃ v0,σ = [v0,some (.ref l)])/\Same H1 H2/\H2 D = some (.lst ((ss.take i).map fun n=>V.bl (!decide (n ∈ hs)))))
   ⟨⟨_,rfl⟩,Same.new hD,upd_same⟩ (fun i σ H1 _ ⟨_,s1,_⟩=>s1.at a) ?_ ?_
  ·intro i σ H2 v N hx zq9 hN
   refine o0_3 zq9 fun zq10 s2 e2=>?_
   refine o1_1 zq10 fun v0 zq11=>?_
   subst zq11
   rw [List.getElem?_map] at hx
   cases hy:ss[i]? with
   | none=>rw [hy] at hx; cases hx
   | some n =>
    rw [hy] at hx
    cases hx
    refine g_true ?_
    refine ex1 rfl (ex1 rfl (notInL_str (.inl (SqL.of (s2 _ _ e1))) ⟨_,e2,?_,hN _ _ ⟨⟨_,rfl⟩,s2.upd hD,?_⟩⟩))
    ·rw [List.length_map,List.length_take,sizeLine_eq]; lia
    ·rw [upd_same,take_succ hy,List.map_append]; rfl
  ·intro σ H2 zq12
   refine o0_3 zq12 fun _ s2 e2=>?_
   rw [List.length_map,List.take_length] at e2
   refine ⟨D,ss.map fun n=>!decide (n ∈ hs),rfl,SqL.of (by rw [e2,List.map_map]; rfl),?_⟩
   have e:(ss.map fun n=>!decide (n ∈ hs)).all id = quietB qs ss:=by
    unfold quietB
    rw [List.all_map]
    congr 1
    funext n
    show (!decide (n ∈ hs)) = decide (¬ ∃ m ∈ ss,Strk qs m n)
    have:n ∈ hs ↔ ∃ m ∈ ss,Strk qs m n:=by
     rw [m1]
     exact ⟨fun ⟨m,h1,h2⟩=>⟨m,h1,strk_struck.mp h2⟩,fun ⟨m,h1,h2⟩=>⟨m,h1,strk_struck.mpr h2⟩⟩
    rw [decide_not]
    congr 1
    exact decide_eq_decide.mpr this
   rw [e]
   exact k _ (s1.trans s2)
end
end Sw
namespace Sw
open PySem L2
section
variable {P:Program} {w:World} {K:PySem.W.Frag} {mg:Str->Option Value} {base:Heap}
theorem sc_strikers_of_any:FnScope ["web", "some"] ["web", "some"] (defScope s_strikers_of_any):=⟨rfl,rfl,rfl,by decide +kernel,rfl,by decide +kernel,by decide +kernel⟩
theorem ok_strikers_of_any (T:Tx K mg):FnOk P w K mg base CX0 3 T.strikers_of_any.f T.strikers_of_any.fd ["web", "some"] (sp_any K T.CWeb strikersOf):=by
 have G_Web_strikers:FnOk P w K mg base CX0 2 T.mWeb_strikers.f T.mWeb_strikers.fd ["self", "name"] (sp_strikers T.CWeb):=ok_Web_strikers T
 refine T.strikers_of_any.F.ok sc_strikers_of_any (fun vs H Q E h=>?_) (fun cdv A outer s H vs Q E hr h=>?_)
 ·refine o5_2 h fun x a ss ns qs zq13 _=>?_
  try clear h
  subst zq13
  rfl
 ·refine o5_5 h fun x a ss ns qs zq14 hW hS hM k=>?_
  try clear h
  subst zq14
  have hu:=hu_of hr
  obtain ⟨ok,dx,a1,b,c,d,kc,kd,e1,_⟩:=(id hW)
  have hsub:∀ l:List Str,l.Nodup->(∀ y ∈ l,∃ n ∈ ss,y ∈ strikersOf qs n)->l.length<=100:=fun l nd h=>by
   refine Nat.le_trans (nd.length_le_of_subset fun y hy=>?_) ok.len
   refine o1_2 (h y hy) fun n _ hy'=>?_
   refine o1_3 (mem_strikersOf.mp hy') fun q hq _ e=>?_
   rw [<-e]
   exact (ok.mem q hq).1
  refine ⟨_,(pss_one (ps_ret (pe_bf (cl_sortW w) T.b_sorted bt_sorted (pa_cons (peSC2 w (N':=["name", "striker", "web"]) (cap:=[none,none,some 0]) (cl:=[("web",_)]) (cs_mk ⟨⟨rfl,rfl,rfl,rfl⟩,trivial⟩ ⟨rfl,trivial⟩) (piS K (pv 1)) (fun _ _ _ _=>by exact ⟨(pgC 0),pts_nil,(piL K (pe_meth (pv 2) T.clWeb T.mWeb_strikers.m G_Web_strikers (hr.mono (by decide)) T.mWeb_strikers.b .nil pass0 (pa_cons (pv 0) pa_nil))),(pgC 1),pts_nil,(pv 1)⟩)) pa_nil)))),?_⟩
  dsimp only [tSeq,tAsg,gName,tRet,tCB,tCons,tNil]
  refine comp_seq (by rfl) hS ?_
  intro J as D hD
  refine loop_as as (fun i σ H1=>(∃ v0 v1,σ = [v0,v1,some (.ref x)])/\Same H H1/\∃ l,H1 D = some (SetW w D l)/\l.Nodup/\∀ y,y ∈ l ↔ ∃ n ∈ ss.take i,y ∈ strikersOf qs n)
   ⟨⟨_,_,rfl⟩,Same.new hD,[],upd_same,List.nodup_nil,fun y=>by simp⟩ (fun i σ H1 _ ⟨_,s1,_⟩=>s1.at a) ?_ ?_
  ·intro i σ H1 v N hx zq15 hN
   obtain ⟨zq16,s1,l,e2,n2,m2⟩:=zq15
   refine o2_1 zq16 fun v0 v1 zq17=>?_
   subst zq17
   rw [List.getElem?_map] at hx
   cases hy:ss[i]? with
   | none=>rw [hy] at hx; cases hx
   | some n =>
    rw [hy] at hx
    cases hx
    have hn:n ∈ ns:=hM n (List.mem_of_getElem? hy)
    have hl100:l.length<=100:=hsub l n2 fun y hy=>by
     refine o1_2 ((m2 y).mp hy) fun m hm h=>?_
     exact ⟨m,List.mem_of_mem_take hm,h⟩
    refine g_true ?_
    refine ex1 rfl ⟨x,dx,ex1 rfl ⟨s1 _ _ e1,rfl,ex1 rfl ⟨x,n,ns,qs,rfl,hW.same s1,hn,fun p hp=>?_⟩⟩⟩
    have npD:D ≠ p:=ne_of_none e2 hp
    refine ⟨p,rfl,⟨_,SqL.of upd_same⟩,sw_loop (H0:=H) (n:=0) (asL (SqL.of upd_same)) (Sg:=fun σ=>∃ v0 v1,σ = [v0,v1,some (.ref x)]) ⟨_,_,rfl⟩ (fun σ v ⟨v0,v1,e⟩=>by rw [e]; exact ⟨⟨_,_,rfl⟩,rfl⟩) (by rw [upd_ne npD]; exact e2) npD.symm n2 ?_ (s1.trans (Same.new hp)) hD ?_⟩
    ·have:=len_strikersOf qs n
     have:=ok.lenq
     lia
    ·rintro σ l' H2 hσ s2 e3 n3 _ m3
     refine hN _ _ ⟨hσ,s2,l',e3,n3,fun y=>?_⟩
     rw [m3,m2,take_succ hy]
     constructor
     ·rintro (⟨m,hm,h⟩ | h)
      ·exact ⟨m,List.mem_append_left _ hm,h⟩
      ·exact ⟨n,List.mem_append_right _ (List.mem_singleton.mpr rfl),h⟩
     ·intro zq18
      refine o1_2 zq18 fun m hm h=>?_
      rcases List.mem_append.mp hm with z | z
      ·exact .inl ⟨m,z,h⟩
      ·rw [List.mem_singleton.mp z] at h; exact .inr h
  ·intro σ H1 zq19
   obtain ⟨_,s1,l,e2,n2,m2⟩:=zq19
   rw [List.length_map,List.take_length] at m2
   refine ⟨D,l,rfl,e2,fun p hs hp pm srt=>?_⟩
   have s2:Same H (upd H1 p (.lst (hs.map V.str))):=s1.trans (Same.new hp)
   exact k p hs _ (s1.free hp) s2 upd_same (fun y=>by rw [pm.mem_iff]; exact m2 y) srt (pm.nodup_iff.mpr n2) (by rw [pm.length_eq]; exact hsub l n2 fun y hy=>(m2 y).mp hy)
end
end Sw
namespace Sw
open PySem L2
section
variable {P:Program} {w:World} {K:PySem.W.Frag} {mg:Str->Option Value} {base:Heap}
theorem sc_strikes_back:FnScope ["web", "some", "hit"] ["web", "some"] (defScope s_strikes_back):=⟨rfl,rfl,rfl,by decide +kernel,rfl,by decide +kernel,by decide +kernel⟩
theorem ok_strikes_back (T:Tx K mg):FnOk P w K mg base CX0 4 T.strikes_back.f T.strikes_back.fd ["web", "some"] (sp_truth K T.CWeb fun _=>BackP):=by
 have G_struck_by_any:FnOk P w K mg base CX0 3 T.struck_by_any.f T.struck_by_any.fd ["web", "some"] (sp_any K T.CWeb struckOf):=ok_struck_by_any T
 have G_strikers_of_any:FnOk P w K mg base CX0 3 T.strikers_of_any.f T.strikers_of_any.fd ["web", "some"] (sp_any K T.CWeb strikersOf):=ok_strikers_of_any T
 have sc:=sc_strikes_back
 refine T.strikes_back.F.ok sc_strikes_back (fun vs H Q E h=>?_) (fun cdv A outer s H vs Q E hr h=>?_)
 ·refine o5_2 h fun x a ss ns qs zq20 _=>?_
  try clear h
  subst zq20
  rfl
 ·refine o5_6 h fun x a ss ns qs zq21 hW hS hM hl k=>?_
  try clear h
  subst zq21
  refine ⟨_,(pss_cons (ps_set (i:=2) sc.nd rfl (by first | exact Or.inl rfl | exact Or.inr rfl) (pe_fn T.struck_by_any G_struck_by_any (hr.mono (by decide)) (pa_cons (pv 0) (pa_cons (pv 1) pa_nil))))
   (pss_one (ps_ret (pe_bf (cl_all K) T.b_all bt_all (pa_cons (pe_lc (N':=["name", "hit"]) (cap:=[none,some 2]) (cl:=[("hit",_)]) (cs_mk ⟨⟨rfl,rfl,rfl,rfl⟩,trivial⟩ ⟨rfl,trivial⟩) rfl (piL K (pe_fn T.strikers_of_any G_strikers_of_any (hr.mono (by decide)) (pa_cons (pv 0) (pa_cons (pv 1) pa_nil)))) (fun _ _ _ _=>by exact ⟨(pgC 0),pts_nil,(pe_cmpR (o_inL K) (pv 0) (pv 1) rfl)⟩)) pa_nil))))),?_⟩
  refine ex1 rfl (ex1 rfl (ex5_5 (a:=x) (b:=a) (c:=ss) (d:=ns) (e:=qs) rfl hW hS hM fun l hs H1 hl0 s1 e1 m1 _ _ _=>?_))
  dsimp only [tSeq,tAsg,gName,tRet,tCB,tCons,tNil]
  refine ex1 rfl (ex1 rfl (ex5_5 (a:=x) (b:=a) (c:=ss) (d:=ns) (e:=qs) rfl (hW.same s1) ((s1.at a).seq hS) hM fun l2 gs H2 hl2 s2 e2 m2 _ _ len2=>?_))
  have hit2:=s2 _ _ e1
  refine ⟨l2,rfl,⟨_,SqL.of e2⟩,fun D hD=>?_⟩
  refine loop_as (asL (K:=K) (SqL.of e2)) (fun i σ H3=>(∃ v0,σ = [v0,some (.ref l)])/\Same H2 H3/\H3 D = some (.lst ((gs.take i).map fun n=>V.bl (decide (n ∈ hs)))))
   ⟨⟨_,rfl⟩,Same.new hD,upd_same⟩ (fun i σ H1 _ ⟨_,s1,_⟩=>s1.at l2) ?_ ?_
  ·intro i σ H3 v N hx zq22 hN
   refine o0_3 zq22 fun zq23 s3 e3=>?_
   refine o1_1 zq23 fun v0 zq24=>?_
   subst zq24
   rw [List.getElem?_map] at hx
   cases hy:gs[i]? with
   | none=>rw [hy] at hx; cases hx
   | some n =>
    rw [hy] at hx
    cases hx
    refine g_true ?_
    refine ex1 rfl (ex1 rfl (inL_str (.inl (SqL.of (s3 _ _ hit2))) ⟨_,e3,?_,hN _ _ ⟨⟨_,rfl⟩,s3.upd hD,?_⟩⟩))
    ·rw [List.length_map,List.length_take,sizeLine_eq]; lia
    ·rw [upd_same,take_succ hy,List.map_append]; rfl
  ·intro σ H3 zq25
   refine o0_3 zq25 fun _ s3 e3=>?_
   rw [List.length_map,List.take_length] at e3
   refine ⟨D,gs.map fun n=>decide (n ∈ hs),rfl,SqL.of (by rw [e3,List.map_map]; rfl),?_⟩
   refine k _ _ ?_ ((s1.trans s2).trans s3)
   rw [List.all_map,List.all_eq_true]
   constructor
   ·intro h y n hn hy
    have:=of_decide_eq_true (h y ((m2 y).mpr ⟨n,hn,strk_strikers.mpr hy⟩))
    refine o1_2 ((m1 y).mp this) fun m hm h'=>?_
    exact ⟨m,hm,strk_struck.mp h'⟩
   ·intro h y hy
    refine o1_2 ((m2 y).mp hy) fun n hn hy=>?_
    refine o1_2 (h y n hn (strk_strikers.mp hy)) fun m hm h'=>?_
    exact decide_eq_true ((m1 y).mpr ⟨m,hm,strk_struck.mpr h'⟩)
end
end Sw
namespace Sw
open PySem L2
noncomputable def StandP (qs:List PA2) (ss:List Str):Prop:=QuietP qs ss/\BackP qs ss
section
variable {P:Program} {w:World} {K:PySem.W.Frag} {mg:Str->Option Value} {base:Heap}
theorem sc_stands:FnScope ["web", "some"] ["web", "some"] (defScope s_stands):=⟨rfl,rfl,rfl,by decide +kernel,rfl,by decide +kernel,by decide +kernel⟩
theorem ok_stands (T:Tx K mg):FnOk P w K mg base CX0 5 T.stands.f T.stands.fd ["web", "some"] (sp_truth K T.CWeb fun _=>StandP):=by
 have G_is_quiet:FnOk P w K mg base CX0 4 T.is_quiet.f T.is_quiet.fd ["web", "some"] (sp_bool K T.CWeb fun _=>quietB):=ok_is_quiet T
 have G_strikes_back:FnOk P w K mg base CX0 4 T.strikes_back.f T.strikes_back.fd ["web", "some"] (sp_truth K T.CWeb fun _=>BackP):=ok_strikes_back T
 have sc:=sc_stands
 refine T.stands.F.ok sc_stands (fun vs H Q E h=>?_) (fun cdv A outer s H vs Q E hr h=>?_)
 ·refine o5_2 h fun x a ss ns qs zq26 _=>?_
  try clear h
  subst zq26
  rfl
 ·refine o5_6 h fun x a ss ns qs zq27 hW hS hM hl k=>?_
  try clear h
  subst zq27
  refine ⟨_,(pss_one (ps_ret (pe_and (pe_fn T.is_quiet G_is_quiet (hr.mono (by decide)) (pa_cons (pv 0) (pa_cons (pv 1) pa_nil))) (pe_one (pe_fn T.strikes_back G_strikes_back (hr.mono (by decide)) (pa_cons (pv 0) (pa_cons (pv 1) pa_nil))))))),?_⟩
  refine ex1 rfl (ex1 rfl (ex5_6 (a:=x) (b:=a) (c:=ss) (d:=ns) (e:=qs) rfl hW hS hM hl fun H1 s1=>⟨quietB qs ss,rfl,?_⟩))
  refine ite2 (fun c=>?_) (fun c=>?_)
  ·refine ex1 rfl (ex1 rfl (ex5_6 (a:=x) (b:=a) (c:=ss) (d:=ns) (e:=qs) rfl (hW.same s1) ((s1.at a).seq hS) hM hl fun b H2 hb s2=>k b H2 ?_ (s1.trans s2)))
   exact hb.trans ⟨fun h=>⟨quietB_iff.mp c,h⟩,fun h=>h.2⟩
  ·exact k false H1 ⟨fun z=>(by cases z),fun h=>absurd (quietB_iff.mpr h.1) c⟩ s1
end
end Sw
namespace Sw
open PySem L2
section
variable {P:Program} {w:World} {K:PySem.W.Frag} {mg:Str->Option Value} {base:Heap}
theorem sc_law_mix:FnScope ["_law_cell", "_law_k", "_law_m"] ["_law_cell", "_law_k"] (defScope s_law_mix):=⟨rfl,rfl,rfl,by decide +kernel,rfl,by decide +kernel,by decide +kernel⟩
noncomputable def sp_mix:Sp:=fun vs H Q _=>∃ (cell k:Int),vs = [.int cell,.int k]/\0<=k/\k<=2000000/\∀ m:Int,0<=m->m < 1999999973->Q (.int m) H
theorem ok_law_mix (T:Tx K mg):FnOk P w K mg base CX0 1 T.law_mix.f T.law_mix.fd ["_law_cell", "_law_k"] sp_mix:=by
 have sc:=sc_law_mix
 refine T.law_mix.F.ok sc_law_mix (fun vs H Q E h=>?_) (fun cdv A outer s H vs Q E hr h=>?_)
 ·refine o2_2 h fun c k zq1 _=>?_
  try clear h
  subst zq1
  rfl
 ·refine o2_4 h fun cell k zq2 k0 k1 q=>?_
  try clear h
  subst zq2
  refine ⟨_,(pss_cons (ps_set (i:=2) sc.nd rfl (by first | exact Or.inl rfl | exact Or.inr rfl) (pe_op op_mod (pe_op op_mul (pe_op op_add (pe_op op_add (pe_op op_mod (pv 0) pe_int) (pe_op op_mul (pe_op op_mul (pv 1) (pv 1)) pe_int)) pe_int) pe_int) pe_int))
   (pss_one (ps_ret (pe_op op_mod (pe_op op_mul (pv 2) (pv 2)) pe_int)))),?_⟩
  refine ex1 rfl (ex2_3 rfl rfl ⟨(show (0:Int) < 2147483629 by decide),ex1 rfl (ex1 rfl (ex2_3 rfl rfl ⟨.inl ⟨by lia,by lia⟩,ex2_3 rfl rfl ⟨.inr ⟨by decide,by decide⟩,ex2_3 rfl rfl (ex2_3 rfl rfl (ex2_3 rfl rfl ⟨.inr ⟨by decide,by decide⟩,ex2_3 rfl rfl ⟨(show (0:Int) < 2147483647 by decide),?_⟩⟩))⟩⟩))⟩)
  generalize hm:(cell % 2147483629 + k * k * 7919 + 11) * 48271 % 2147483647 = m
  have h1:0<=m:=by rw [<-hm]; exact Int.emod_nonneg _ (by decide)
  have h2:m < 2147483647:=by rw [<-hm]; exact Int.emod_lt_of_pos _ (by decide)
  exact ⟨_,rfl,_,rfl,_,_,rfl,rfl,.inl ⟨by lia,by lia⟩,_,_,rfl,rfl,(show (0:Int) < 1999999973 by decide),q _ (Int.emod_nonneg _ (by decide)) (Int.emod_lt_of_pos _ (by decide))⟩
noncomputable def LeftAt (H:Hp) (p:Addr) (c:Int):Prop:=∃ a b:Int,H p = some (.lst [.int a,.int b,.int c])/\0<=c
theorem LeftAt.isS {H:Hp} {p:Addr} {c:Int} (h:LeftAt H p c):(H p).isSome = true:=by
 refine o2_2 h fun _ _ e _=>?_
 try clear h
 rw [e]; rfl
theorem LeftAt.get {H:Hp} {p:Addr} {c:Int} (h:LeftAt H p c):H p = some ((H p).get h.isS):=(Option.some_get _).symm
theorem LeftAt.cast {H:Hp} {p:Addr} {c c':Int} (h:LeftAt H p c) (e:c = c'):LeftAt H p c':=e ▸ h
theorem LeftAt.upd {H:Hp} {p a:Addr} {c:Int} {o:HO} (h:LeftAt H p c) (n:p ≠ a):LeftAt (L2.upd H a o) p c:=by
 refine o2_2 h fun x y e z=>?_
 try clear h
 exact ⟨x,y,by rw [upd_ne n]; exact e,z⟩
theorem LeftAt.same {H H':Hp} {p:Addr} {c:Int} (h:LeftAt H p c) (s:Same H H'):LeftAt H' p c:=by
 refine o2_2 h fun x y e z=>?_
 try clear h
 exact ⟨x,y,s _ _ e,z⟩
theorem if01 (c:Bool):-(2 ^ 64) < (if c = true then (1:Int) else 0)/\(if c = true then (1:Int) else 0) < 2 ^ 64:=by cases c <;> exact ⟨by decide,by decide⟩
theorem sc_law_left:FnScope ["_law_script", "_law_k", "_law_cell"] ["_law_script", "_law_k"] (defScope s_law_left):=⟨rfl,rfl,rfl,by decide +kernel,rfl,by decide +kernel,by decide +kernel⟩
noncomputable def sp_left (K:PySem.W.Frag):Sp:=fun vs H Q _=>∃ (p:Addr) (xs:List Int) (k:Nat),vs = [.ref p,.int (k:Int)]/\SqL K H p (xs.map V.int)/\k<=1000/\∀ l H',H l = none->Same H H'->LeftAt H' l 0->Q (.ref l) H'
theorem ok_law_left (T:Tx K mg):FnOk P w K mg base CX0 1 T.law_left.f T.law_left.fd ["_law_script", "_law_k"] (sp_left K):=by
 have sc:=sc_law_left
 refine T.law_left.F.ok sc_law_left (fun vs H Q E h=>?_) (fun cdv A outer s H vs Q E hr h=>?_)
 ·refine o3_2 h fun p xs k zq3 _=>?_
  try clear h
  subst zq3
  rfl
 ·refine o3_4 h fun p xs k zq4 hS hk q=>?_
  try clear h
  subst zq4
  refine ⟨_,(pss_cons (ps_set (i:=2) sc.nd rfl (by first | exact Or.inl rfl | exact Or.inr rfl) (pe_ifExp (pt_cmpR op_lt (pv 1) (pe_bf (cl_len K) T.b_len bt_len (pa_cons (pv 0) pa_nil)) (nomark _)) (pe_ix (ixL K) (pv 0) (pv 1) (fun _ _=>rfl)) pe_int))
   (pss_one (ps_ret (pe_lst (pa_cons (pe_op op_mul (pe_bf call_abs T.b_abs bt_abs (pa_cons (pv 2) pa_nil)) (pe_bt call_int1 T.b_int bt_int (pa_cons (pe_cmpR op_ge (pe_bf call_abs T.b_abs bt_abs (pa_cons (pv 2) pa_nil)) (pe_op op_pow pe_int pe_int) (nomark _)) pa_nil))) (pa_cons (pe_op op_add (pv 2) (pe_op op_mul pe_int (pv 1))) (pa_cons pe_int pa_nil))))))),?_⟩
  refine ex1 rfl (ex1 rfl (ex2_3 (a:=p) rfl (.inl hS) (ex2_3 rfl rfl (ex1 rfl ?_))))
  have at1:decide ((k:Int) < ((xs.map V.int).length:Int)) = true->∃ c:Int,atI (xs.map V.int) (k:Int) = some (.int c):=fun c1=>by
   have c1:(k:Int) < ((xs.map V.int).length:Int):=of_decide_eq_true c1
   rw [List.length_map] at c1
   have hk':xs[k]? = some (xs[k]'(by lia)):=List.getElem?_eq_getElem (by lia)
   exact ⟨_,atI_nat (by rw [List.getElem?_map,hk']; rfl)⟩
  refine ite2 (fun c1=>?_) (fun c1=>?_)
  ·refine o1_1 (at1 c1) fun c hc=>?_
   refine ex1 rfl (ex1 rfl ⟨p,_,ex2_3 rfl rfl ⟨hS,hc,?_⟩⟩)
   (repeat first | refine ⟨_,rfl,?_⟩ | refine ⟨_,_,rfl,rfl,?_⟩)
   refine ⟨⟨by decide,by decide,by decide⟩,?_⟩
   (repeat first | refine ⟨_,rfl,?_⟩ | refine ⟨_,_,rfl,rfl,?_⟩)
   refine .inr ⟨_,rfl,?_⟩
   (repeat first | refine ⟨_,rfl,?_⟩ | refine ⟨_,_,rfl,rfl,?_⟩)
   refine ⟨.inr ?_,?_⟩
   ·exact if01 _
   (repeat first | refine ⟨_,rfl,?_⟩ | refine ⟨_,_,rfl,rfl,?_⟩)
   refine ⟨.inl ⟨by decide,by decide⟩,?_⟩
   (repeat first | refine ⟨_,rfl,?_⟩ | refine ⟨_,_,rfl,rfl,?_⟩)
   exact ⟨by show 3<=sizeLine; decide,fun l hl=>q l _ hl (Same.new hl) ⟨_,_,upd_same,by decide⟩⟩
  ·(repeat first | refine ⟨_,rfl,?_⟩ | refine ⟨_,_,rfl,rfl,?_⟩)
   refine ⟨⟨by decide,by decide,by decide⟩,?_⟩
   (repeat first | refine ⟨_,rfl,?_⟩ | refine ⟨_,_,rfl,rfl,?_⟩)
   refine .inr ⟨_,rfl,?_⟩
   (repeat first | refine ⟨_,rfl,?_⟩ | refine ⟨_,_,rfl,rfl,?_⟩)
   refine ⟨.inr ?_,?_⟩
   ·exact if01 _
   (repeat first | refine ⟨_,rfl,?_⟩ | refine ⟨_,_,rfl,rfl,?_⟩)
   refine ⟨.inl ⟨by decide,by decide⟩,?_⟩
   (repeat first | refine ⟨_,rfl,?_⟩ | refine ⟨_,_,rfl,rfl,?_⟩)
   exact ⟨by show 3<=sizeLine; decide,fun l hl=>q l _ hl (Same.new hl) ⟨_,_,upd_same,by decide⟩⟩
theorem sc_law_pick:FnScope ["_law_left_here", "_law_many", "_law_digit"] ["_law_left_here", "_law_many"] (defScope s_law_pick):=⟨rfl,rfl,rfl,by decide +kernel,rfl,by decide +kernel,by decide +kernel⟩
noncomputable def sp_pick:Sp:=fun vs H Q _=>∃ (p:Addr) (c many:Int),vs = [.ref p,.int many]/\LeftAt H p c/\c<=1000000/\0 < many/\many<=1000000 /\
 ∀ (d:Nat) H',(d:Int) < many->Sm [p] H H'->LeftAt H' p (c + 1)->Q (.int (d:Int)) H'
theorem ok_law_pick (T:Tx K mg):FnOk P w K mg base CX0 2 T.law_pick.f T.law_pick.fd ["_law_left_here", "_law_many"] sp_pick:=by
 have G_law_mix:FnOk P w K mg base CX0 1 T.law_mix.f T.law_mix.fd ["_law_cell", "_law_k"] sp_mix:=ok_law_mix T
 have sc:=sc_law_pick
 refine T.law_pick.F.ok sc_law_pick (fun vs H Q E h=>?_) (fun cdv A outer s H vs Q E hr h=>?_)
 ·refine o3_2 h fun p c m zq5 _=>?_
  try clear h
  subst zq5
  rfl
 ·refine o3_6 h fun p c many zq6 zq7 c1 m0 m1 q=>?_
  try clear h
  subst zq6
  refine o2_2 zq7 fun a b e c0=>?_
  refine ⟨_,(pss_cons (ps_asg (pe_op op_add (pe_ix (ixL K) (pv 0) pe_int (fun _ _=>rfl)) pe_int) (pg_sub (pv 0) pe_int set_list))
   (pss_cons (ps_if (pt_cmpR op_gt (pe_ix (ixL K) (pv 0) pe_int (fun _ _=>rfl)) pe_int (nomark _)) (pss_cons (ps_set (i:=2) sc.nd rfl (by first | exact Or.inl rfl | exact Or.inr rfl) (pe_op op_mod (pe_ix (ixL K) (pv 0) pe_int (fun _ _=>rfl)) (pv 1)))
   (pss_cons (ps_asg (pe_op op_fdiv (pe_ix (ixL K) (pv 0) pe_int (fun _ _=>rfl)) (pv 1)) (pg_sub (pv 0) pe_int set_list))
   (pss_one (ps_ret (pv 2))))) pss_nil)
   (pss_one (ps_ret (pe_op op_mod (pe_op op_fdiv (pe_fn T.law_mix G_law_mix (hr.mono (by decide)) (pa_cons (pe_fn T.law_mix G_law_mix (hr.mono (by decide)) (pa_cons (pe_ix (ixL K) (pv 0) pe_int (fun _ _=>rfl)) (pa_cons (pe_ix (ixL K) (pv 0) pe_int (fun _ _=>rfl)) pa_nil))) (pa_cons (pe_op op_add (pe_ix (ixL K) (pv 0) pe_int (fun _ _=>rfl)) pe_int) pa_nil))) pe_int) (pv 1)))))),?_⟩
  have nn:∀ d:Int,0<=d->d < many->∀ a' b',Q (.int d) (upd (upd H p (.lst [.int a,.int b,.int (c + 1)])) p (.lst [.int a',.int b',.int (c + 1)]))/\Q (.int d) (upd H p (.lst [.int a',.int b',.int (c + 1)])):=fun d h0 h1 a' b'=>by
   refine o1_1 (Int.eq_ofNat_of_zero_le h0) fun n zq8=>?_
   subst zq8
   exact ⟨q n _ h1 (((Sm.refl _ _).upd (by simp)).upd (by simp)) ⟨a',b',upd_same,by lia⟩,q n _ h1 ((Sm.refl _ _).upd (by simp)) ⟨a',b',upd_same,by lia⟩⟩
  refine ex1 rfl ⟨p,_,ex2_3 rfl rfl ⟨SqL.of e,rfl,ex2_3 rfl rfl (ex1 rfl ⟨p,_,_,2,rfl,rfl,e,rfl,?_⟩)⟩⟩
  refine ex1 rfl ⟨p,_,ex2_3 rfl rfl ⟨SqL.of upd_same,rfl,ex2_3 rfl rfl (ex1 rfl ?_)⟩⟩
  refine ite2 (fun h1=>?_) (fun h1=>?_)
  ·have h1:(0:Int) < a:=of_decide_eq_true h1
   refine ex1 rfl ⟨p,_,ex2_3 rfl rfl ⟨SqL.of upd_same,rfl,ex1 rfl (ex2_3 rfl rfl ⟨m0,?_⟩)⟩⟩
   refine ex1 rfl ⟨p,_,ex2_3 rfl rfl ⟨SqL.of upd_same,rfl,ex1 rfl (ex2_3 rfl rfl ⟨⟨m0,by lia⟩,ex1 rfl ⟨p,_,_,0,rfl,rfl,upd_same,rfl,?_⟩⟩)⟩⟩
   exact ⟨_,rfl,(nn _ (Int.emod_nonneg _ (by lia)) (Int.emod_lt_of_pos _ m0) _ _).1⟩
  ·refine ex1 rfl ⟨p,_,ex2_3 rfl rfl ⟨SqL.of upd_same,rfl,ex1 rfl ⟨p,_,ex2_3 rfl rfl ⟨SqL.of upd_same,rfl,_,ex1 rfl ⟨by lia,by lia,fun m2 h2 h3=>?_⟩⟩⟩⟩⟩
   refine ex1 rfl ⟨p,_,ex2_3 rfl rfl ⟨SqL.of upd_same,rfl,ex2_3 rfl rfl ⟨_,ex1 rfl ⟨by lia,by lia,fun m3 h4 h5=>?_⟩⟩⟩⟩
   refine ex2_3 rfl rfl ⟨⟨by decide,by decide⟩,ex1 rfl (ex2_3 rfl rfl ⟨m0,?_⟩)⟩
   exact (nn _ (Int.emod_nonneg _ (by lia)) (Int.emod_lt_of_pos _ m0) _ _).2
end
end Sw
namespace Sw
open PySem L2
theorem six {d n:Nat} (h:d < n):seqIndex? (d:Int) n = some d:=by
 unfold seqIndex?
 simp
 lia
theorem erase_perm {α:Type} {l:List α} {i:Nat} {x:α} (h:l[i]? = some x):(x :: l.eraseIdx i).Perm l:=ST.erase_perm h
theorem map_erase {α β:Type} (f:α->β):∀ (l:List α) (i:Nat),(l.map f).eraseIdx i = (l.eraseIdx i).map f
 | [],_=>rfl
 | _ :: _,0=>rfl
 | a :: l,i + 1=>by
  show f a :: (l.map f).eraseIdx i = f a :: (l.eraseIdx i).map f
  rw [map_erase f l i]
theorem names_of {all rest got:List Str} (pm:(rest ++ got).Perm all) (h1:∀ x ∈ all,nameB x = true) (h2:all.Nodup) (h3:all.length<=100):NamesOk got:=by
 refine ⟨fun x hx=>h1 x (pm.mem_iff.mp (List.mem_append_right _ hx)),?_,?_⟩
 ·exact (List.nodup_append.mp (pm.nodup_iff.mpr h2)).2.1
 ·have:=pm.length_eq
  rw [List.length_append] at this
  lia
theorem pop_perm {all rest got:List Str} {d:Nat} {x:Str} (pm:(rest ++ got).Perm all) (h:rest[d]? = some x):(rest.eraseIdx d ++ (got ++ [x])).Perm all:=by
 refine List.Perm.trans ?_ pm
 rw [<-List.append_assoc]
 refine List.perm_append_comm.trans ?_
 rw [<-List.append_assoc]
 exact (erase_perm h).append_right got
theorem Sm1 {p b:Addr} {H H':Hp} {o:HO} (h:Sm [p] H H') (e:H b = some o) (n:b ≠ p):H' b = some o:=h b o e fun z=>n (List.mem_singleton.mp z)
section
variable {P:Program} {w:World} {K:PySem.W.Frag} {mg:Str->Option Value} {base:Heap}
noncomputable def all20:List Str:=["b", "aa", "zebra", "c", "quartzes", "ab", "m", "knows", "d", "mm", "likes", "z", "a", "ba", "abcdefgh", "y", "zz", "e", "x", "f"]
noncomputable abbrev txt20:Str := "b aa zebra c quartzes ab m knows d mm likes z a ba abcdefgh y zz e x f"
theorem split20:Builtin.Str.partsBetween txt20 (Builtin.Str.occurrences txt20 " " 0 txt20.length (txt20.length + 1)) (" ":Str).length = all20:=by decide +kernel
theorem all20_ok:(∀ x ∈ all20,nameB x = true)/\all20.Nodup:=⟨by decide +kernel,by decide +kernel⟩
theorem split_names:∃ all:List Str,all.length = 20/\(∀ x ∈ all,nameB x = true)/\all.Nodup/\∀ (Q:VK) (H:Hp),(∀ l,H l = none->Q (.ref l) (upd H l (.lst (all.map V.str))))->rSplit (.str txt20) [.str " "] H Q :=
 ⟨all20,rfl,all20_ok.1,all20_ok.2,fun Q H h=>⟨txt20, " ",all20,rfl,rfl,by decide +kernel,by decide +kernel,by decide +kernel,by decide +kernel,split20,by decide +kernel,h⟩⟩
theorem sc_law_names:FnScope ["_law_left_here", "_law_many", "_law_some_here", "_law_names_here", "_law_k"] ["_law_left_here", "_law_many"] (defScope s_law_names):=⟨rfl,rfl,rfl,by decide +kernel,rfl,by decide +kernel,by decide +kernel⟩
noncomputable def sp_names:Sp:=fun vs H Q _=>∃ (p:Addr) (c:Int) (many:Nat),vs = [.ref p,.int (many:Int)]/\LeftAt H p c/\c<=900000/\many<=20 /\
 ∀ l (ss:List Str) H',H l = none->Sm [p] H H'->H' l = some (.lst (ss.map V.str))->ss.length = many->NamesOk ss->LeftAt H' p (c + many)->Q (.ref l) H'
set_option maxHeartbeats 2000000 in
theorem ok_law_names (T:Tx K mg):FnOk P w K mg base CX0 3 T.law_names.f T.law_names.fd ["_law_left_here", "_law_many"] sp_names:=by
 have G_law_pick:FnOk P w K mg base CX0 2 T.law_pick.f T.law_pick.fd ["_law_left_here", "_law_many"] sp_pick:=ok_law_pick T
 have sc:=sc_law_names
 refine T.law_names.F.ok sc_law_names (fun vs H Q E h=>?_) (fun cdv A outer s H vs Q E hr h=>?_)
 ·refine o3_2 h fun p c m zq9 _=>?_
  try clear h
  subst zq9
  rfl
 ·refine o3_5 h fun p c many zq10 hL c1 m1 q=>?_
  try clear h
  subst zq10
  refine o2_2 (id hL) fun a0 b0 e0 c0=>?_
  refine ⟨_,(pss_cons (ps_set (i:=2) sc.nd rfl (by first | exact Or.inl rfl | exact Or.inr rfl) (peBM K PySem.F.plainAttrs_str PySem.F.slot_str_split PySem.F.type_str_split mt_split pe_str (pa_cons pe_str pa_nil)))
   (pss_cons (ps_set (i:=3) sc.nd rfl (by first | exact Or.inl rfl | exact Or.inr rfl) (pe_lst pa_nil))
   (pss_cons (ps_for PassesOwn.never rfl (piR1 T.b_range (pa_cons (pv 1) pa_nil)) (pg_name (i:=4) sc.nd rfl (by first | exact Or.inl rfl | exact Or.inr rfl))
   (pss_one (ps_expr (peBM K PySem.F.plainAttrs_list PySem.F.slot_list_append PySem.F.type_list_append mt_append (pv 3) (pa_cons (peBM K PySem.F.plainAttrs_list PySem.F.slot_list_pop PySem.F.type_list_pop mt_popAt (pv 2) (pa_cons (pe_fn T.law_pick G_law_pick (hr.mono (by decide)) (pa_cons (pv 0) (pa_cons (pe_bf (cl_len K) T.b_len bt_len (pa_cons (pv 2) pa_nil)) pa_nil))) pa_nil)) pa_nil)))))
   (pss_one (ps_ret (pv 3)))))),?_⟩
  refine o1_4 split_names fun all al a1 a2 hspl=>?_
  try clear split_names
  refine ⟨rfl,?_⟩
  dsimp only [tCons,tC,tNil]
  refine hspl _ _ fun a ha=>?_
  refine ⟨Nat.zero_le _,fun b hb=>?_⟩
  have hb':H b = none:=(Same.new ha).free hb
  have nab:a ≠ b:=ne_of_none upd_same hb
  have npa:p ≠ a:=ne_of_none e0 ha
  have npb:p ≠ b:=ne_of_none e0 hb'
  refine ex1 rfl (ex1 rfl ⟨by lia,by lia,?_⟩)
  rw [Int.toNat_natCast]
  refine for_rangeG (fun i σ H1=>(∃ v4,σ = [some (.ref p),some (.int (many:Int)),some (.ref a),some (.ref b),v4])/\Sm [p] H H1/\LeftAt H1 p (c + i)/\∃ rest got:List Str,H1 a = some (.lst (rest.map V.str))/\H1 b = some (.lst (got.map V.str))/\(rest ++ got).Perm all/\got.length = i) ?_ ?_ ?_
  ·refine ⟨⟨_,rfl⟩,((Same.new ha).trans (Same.new hb)).sm,((hL.cast (by lia)).upd npa).upd npb,all,[],by rw [upd_ne nab,upd_same],by rw [upd_same]; rfl,by rw [List.append_nil],rfl⟩
  ·intro i σ H1 hi zq11 D1 hD1 _
   obtain ⟨zq12,k1,L1,rest,got,ea,eb,pm,hg⟩:=zq11
   refine o1_1 zq12 fun v4 zq13=>?_
   subst zq13
   have hlen:rest.length = 20 - i:=by
    have:=pm.length_eq
    rw [List.length_append,hg,al] at this
    lia
   refine ex1 rfl ⟨.inl ⟨rfl,_,SqL.of eb⟩,ex1 rfl ⟨.inl ⟨rfl,_,SqL.of ea⟩,ex1 rfl (ex1 rfl (ex2_3 (a:=a) rfl (.inl (SqL.of ea)) (ex3_6 (a:=p) (b:=c + i) rfl L1 (by lia) ?_ ?_ fun d H2 hd k2 L2=>?_)))⟩⟩
   ·rw [List.length_map]; lia
   ·rw [List.length_map]; lia
   rw [List.length_map] at hd
   have hd':d < rest.length:=by lia
   have hx:rest[d]? = some rest[d]:=List.getElem?_eq_getElem hd'
   have ea2:=Sm1 k2 ea npa.symm
   have eb2:=Sm1 k2 eb npb.symm
   refine ⟨a,_,_,d,.str rest[d],rfl,rfl,ea2,by lia,by lia,six (by rw [List.length_map]; exact hd'),by rw [List.getElem?_map,hx]; rfl,b,ex2_3 rfl rfl ⟨by rw [upd_ne nab.symm]; exact eb2,?_,?_⟩⟩
   ·rw [List.length_map,sizeLine_eq]; lia
   refine hD1 _ _ ⟨⟨_,rfl⟩,?_,?_,rest.eraseIdx d,got ++ [rest[d]],?_,?_,pop_perm pm hx,by rw [List.length_append,hg]; rfl⟩
   ·exact ((k1.trans k2).updN ha).updN hb'
   ·exact ((L2.cast (by lia)).upd npa).upd npb
   ·rw [upd_ne nab,upd_same,map_erase]
   ·rw [upd_same,List.map_append]; rfl
  ·intro σ H1 zq14
   obtain ⟨zq15,k1,L1,rest,got,ea,eb,pm,hg⟩:=zq14
   refine o1_1 zq15 fun v4 zq16=>?_
   subst zq16
   exact ⟨_,rfl,q b got H1 hb' k1 eb hg (names_of pm a1 a2 (by lia)) L1⟩
end
end Sw
namespace Sw
open PySem L2
noncomputable def pd (k:Str × Str):PyData:=.tuple [.str k.1,.str k.2]
theorem nameB_ok {x:Str} (h:nameB x = true):PySem.PyData.strOk x = true:=by
 unfold nameB at h
 rw [Bool.and_eq_true] at h
 unfold PySem.PyData.strOk
 rw [<-Array.all_toList,List.all_eq_true]
 intro c hc
 have:=(List.all_eq_true.mp h.2) c hc
 unfold letB at this
 rw [Bool.and_eq_true] at this
 have:=of_decide_eq_true this.2
 exact decide_eq_true (by lia)
theorem rp_pair {K:PySem.W.Frag} {H:Hp} {t:Addr} {k:Str × Str} (h:H t = some (.tup [.str k.1,.str k.2])):Rp K H (pd k) (.ref t):=by
 unfold pd
 simp only [Rp,Rps]
 exact ⟨t,_,rfl,SqT.of h,_,_,rfl,rfl,_,_,rfl,rfl,rfl⟩
theorem rps_pairs {K:PySem.W.Frag} {H:Hp}:∀ {ps:List PA2},(∀ q ∈ ps,PairIn H q)->Rps K H (ps.map fun q=>pd q.2) (refs ps)
 | [],_=>by simp [Rps,refs]
 | q :: r,h=>by
  show Rps K H (pd q.2 :: r.map fun q=>pd q.2) (V.ref q.1 :: refs r)
  simp only [Rps]
  exact ⟨_,_,rfl,rp_pair (h q (List.mem_cons_self ..)),rps_pairs fun z hz=>h z (List.mem_cons_of_mem _ hz)⟩
theorem rp_pairs {K:PySem.W.Frag} {H:Hp} {l:Addr} {ps:List PA2} (hl:H l = some (.lst (refs ps))) (h:∀ q ∈ ps,PairIn H q):Rp K H (.list (ps.map fun q=>pd q.2)) (.ref l):=by
 simp only [Rp]
 exact ⟨l,_,rfl,SqL.of hl,rps_pairs h⟩
theorem eqv_pd (a b:Str × Str):PyData.eqv (pd a) (pd b) = decide (a = b):=by
 unfold pd
 rw [PyData.eqv,PyData.eqvAll,PyData.eqvAll,PyData.eqvAll,PyData.eqv,PyData.eqv]
 by_cases h1:a.1 = b.1
 ·by_cases h2:a.2 = b.2
  ·rw [decide_eq_true (Prod.ext h1 h2),h1,h2]; simp
  ·rw [decide_eq_false fun z=>h2 (congrArg Prod.snd z)]; simp [h2]
 ·rw [decide_eq_false fun z=>h1 (congrArg Prod.fst z)]; simp [h1]
theorem any_pairs (k:Str × Str):∀ ps:List PA2,((ps.map fun q=>pd q.2).any fun z=>PyData.eqv z (pd k)) = decide (k ∈ ps.map fun q=>q.2)
 | []=>rfl
 | q :: r=>by
  rw [List.map_cons,List.any_cons,any_pairs k r,eqv_pd,List.map_cons]
  by_cases e:q.2 = k
  ·rw [decide_eq_true e,Bool.true_or,decide_eq_true (show k ∈ q.2 :: _ from by rw [<-e]; exact List.mem_cons_self ..)]
  ·rw [decide_eq_false e,Bool.false_or]
   by_cases h:k ∈ r.map fun q=>q.2
   ·rw [decide_eq_true h,decide_eq_true (List.mem_cons_of_mem _ h)]
   ·rw [decide_eq_false h,decide_eq_false fun z=>(List.mem_cons.mp z).elim (fun z=>e z.symm) h]
theorem lay_pd {k:Str × Str} (h1:PySem.PyData.strOk k.1 = true) (h2:PySem.PyData.strOk k.2 = true):(pd k).canLay0 = true:=by
 unfold pd
 simp [PyData.canLay0,PyData.canLayAll0,h1,h2]
theorem lay_pds:∀ {ps:List PA2},(∀ q ∈ ps,PySem.PyData.strOk q.2.1 = true/\PySem.PyData.strOk q.2.2 = true)->PyData.canLayAll0 (ps.map fun q=>pd q.2) = true
 | [],_=>rfl
 | q :: r,h=>by
  rw [List.map_cons,PyData.canLayAll0,lay_pd (h q (List.mem_cons_self ..)).1 (h q (List.mem_cons_self ..)).2,lay_pds fun z hz=>h z (List.mem_cons_of_mem _ hz)]
  rfl
theorem notIn_pair {K:PySem.W.Frag} {H:Hp} {t l:Addr} {k:Str × Str} {ps:List PA2} {Q:VK} (ht:H t = some (.tup [.str k.1,.str k.2])) (hl:H l = some (.lst (refs ps))) (hp:∀ q ∈ ps,PairIn H q)
  (hk:PySem.PyData.strOk k.1 = true/\PySem.PyData.strOk k.2 = true) (hs:∀ q ∈ ps,PySem.PyData.strOk q.2.1 = true/\PySem.PyData.strOk q.2.2 = true) (q:Q (.bl (!decide (k ∈ ps.map fun q=>q.2))) H):rInD K true (.ref t) (.ref l) H Q :=
 ⟨pd k,_,rp_pair ht,.inl (rp_pairs hl hp),⟨lay_pd hk.1 hk.2,by simp [pd,PyData.depth,PyData.depthAll]⟩,lay_pds hs,by rw [if_pos rfl,any_pairs]; exact q⟩
structure FL (H:Hp) (l:Addr) (ps:List PA2) (ss:List Str):Prop where
 at_:H l = some (.lst (refs ps))
 pin:∀ q ∈ ps,PairIn H q
 nm:∀ q ∈ ps,q.2.1 ∈ ss/\q.2.2 ∈ ss
 nd:(ps.map fun q=>q.2).Nodup
theorem FL.sm {H H':Hp} {p l:Addr} {c:Int} {ps:List PA2} {ss:List Str} (h:FL H l ps ss) (L:LeftAt H p c) (n:l ≠ p) (s:Sm [p] H H'):FL H' l ps ss:=by
 refine o2_2 L fun x y e _=>?_
 try clear L
 exact ⟨Sm1 s h.at_ n,fun q hq=>Sm1 s (h.pin q hq) (ne_of (h.pin q hq) e (by intro z; cases z)),h.nm,h.nd⟩
theorem FL.new {H:Hp} {l t:Addr} {o:HO} {ps:List PA2} {ss:List Str} (h:FL H l ps ss) (n:H t = none):FL (upd H t o) l ps ss :=
 ⟨by rw [upd_ne (ne_of_none h.at_ n)]; exact h.at_,fun q hq=>by unfold PairIn; rw [upd_ne (ne_of_none (h.pin q hq) n)]; exact h.pin q hq,h.nm,h.nd⟩
theorem FL.put {H:Hp} {l t:Addr} {ps:List PA2} {ss:List Str} {x y:Str} (h:FL H l ps ss) (k:Nat) (ht:H t = some (.tup [.str x,.str y])) (hx:x ∈ ss) (hy:y ∈ ss) (hn:(x,y) ∉ ps.map fun q=>q.2) :
  FL (upd H l (.lst ((refs ps).take k ++ V.ref t :: (refs ps).drop k))) l (ps.take k ++ (t,x,y) :: ps.drop k) ss:=by
 have pm:(ps.take k ++ (t,x,y) :: ps.drop k).Perm ((t,x,y) :: ps):=by
  refine List.perm_middle.trans (List.Perm.cons _ ?_)
  rw [List.take_append_drop]
 have mm:∀ q ∈ ps.take k ++ (t,x,y) :: ps.drop k,q = (t,x,y)\/q ∈ ps:=fun q hq=>List.mem_cons.mp (pm.mem_iff.mp hq)
 refine ⟨?_,fun q hq=>?_,fun q hq=>?_,?_⟩
 ·rw [upd_same]
  unfold refs
  rw [List.map_append,List.map_take,List.map_cons,List.map_drop]
 ·unfold PairIn
  rcases mm q hq with rfl | z
  ·rw [upd_ne (ne_of ht h.at_ (by intro z; cases z))]; exact ht
  ·rw [upd_ne (ne_of (h.pin q z) h.at_ (by intro z; cases z))]; exact h.pin q z
 ·rcases mm q hq with rfl | z
  ·exact ⟨hx,hy⟩
  ·exact h.nm q z
 ·rw [(pm.map _).nodup_iff]
  show ((x,y) :: ps.map fun q=>q.2).Nodup
  exact List.nodup_cons.mpr ⟨hn,h.nd⟩
theorem FL.app {H:Hp} {l t:Addr} {ps:List PA2} {ss:List Str} {x y:Str} (h:FL H l ps ss) (ht:H t = some (.tup [.str x,.str y])) (hx:x ∈ ss) (hy:y ∈ ss) (hn:(x,y) ∉ ps.map fun q=>q.2) :
  FL (upd H l (.lst (refs ps ++ [V.ref t]))) l (ps ++ [(t,x,y)]) ss:=by
 have:=h.put ps.length ht hx hy hn
 have e:(refs ps).length = ps.length:=by unfold refs; rw [List.length_map]
 rw [<-e,List.take_length,List.drop_length,e,List.take_length,List.drop_length] at this
 exact this
theorem prod_len (ss:List Str):∀ tt:List Str,(tt.flatMap fun a=>ss.map fun b=>(a,b)).length = tt.length * ss.length
 | []=>by simp
 | a :: r=>by rw [List.flatMap_cons,List.length_append,List.length_map,prod_len ss r,List.length_cons,Nat.succ_mul]; lia
theorem FL.len {H:Hp} {l:Addr} {ps:List PA2} {ss:List Str} (h:FL H l ps ss):ps.length<=ss.length * ss.length:=by
 have:=h.nd.length_le_of_subset (l₂:=ss.flatMap fun a=>ss.map fun b=>(a,b)) (fun k hk=>by
  refine o1_2 (List.mem_map.mp hk) fun q hq zq17=>?_
  subst zq17
  refine o0_2 (h.nm q hq) fun h1 h2=>?_
  exact List.mem_flatMap.mpr ⟨q.2.1,h1,List.mem_map.mpr ⟨q.2.2,h2,rfl⟩⟩)
 rw [prod_len,List.length_map] at this
 exact this
end Sw
namespace Sw
open PySem L2
section
variable {P:Program} {w:World} {K:PySem.W.Frag} {mg:Str->Option Value} {base:Heap}
theorem size_at (d1 d2 d:Nat) (h1:d1 < 3) (h2:d2 < 4) (h:d < 8):∃ n:Nat,n<=10/\atI [V.int (8 + (d1:Int)),V.int d2,V.int 4,V.int 5,V.int 6,V.int 7,V.int 5,V.int 6] (d:Int) = some (.int (n:Int)):=by
 suffices ∃ n:Nat,n<=10/\[V.int (8 + (d1:Int)),V.int d2,V.int 4,V.int 5,V.int 6,V.int 7,V.int 5,V.int 6][d]? = some (.int (n:Int)) by
  refine o1_2 this fun n h e=>?_
  try clear this
  exact ⟨n,h,atI_nat e⟩
 match d,h with
 | 0,_=>exact ⟨8 + d1,by lia,by show some (V.int _) = _; rw [Int.natCast_add]; rfl⟩
 | 1,_=>exact ⟨d2,by lia,rfl⟩
 | 2,_=>exact ⟨4,by lia,rfl⟩
 | 3,_=>exact ⟨5,by lia,rfl⟩
 | 4,_=>exact ⟨6,by lia,rfl⟩
 | 5,_=>exact ⟨7,by lia,rfl⟩
 | 6,_=>exact ⟨5,by lia,rfl⟩
 | 7,_=>exact ⟨6,by lia,rfl⟩
theorem sc_law_size:FnScope ["_law_left_here", "_law_way"] ["_law_left_here"] (defScope s_law_size):=⟨rfl,rfl,rfl,by decide +kernel,rfl,by decide +kernel,by decide +kernel⟩
noncomputable def sp_size:Sp:=fun vs H Q _=>∃ (p:Addr) (c:Int),vs = [.ref p]/\LeftAt H p c/\c<=900000 /\
 ∀ (n:Nat) H',n<=10->Sm [p] H H'->LeftAt H' p (c + 3)->Q (.int (n:Int)) H'
theorem ok_law_size (T:Tx K mg):FnOk P w K mg base CX0 3 T.law_size.f T.law_size.fd ["_law_left_here"] sp_size:=by
 have G_law_pick:FnOk P w K mg base CX0 2 T.law_pick.f T.law_pick.fd ["_law_left_here", "_law_many"] sp_pick:=ok_law_pick T
 have sc:=sc_law_size
 refine T.law_size.F.ok sc_law_size (fun vs H Q E h=>?_) (fun cdv A outer s H vs Q E hr h=>?_)
 ·refine o2_2 h fun p c zq18 _=>?_
  try clear h
  subst zq18
  rfl
 ·refine o2_4 h fun p c zq19 hL c1 q=>?_
  try clear h
  subst zq19
  refine ⟨_,(pss_cons (ps_set (i:=1) sc.nd rfl (by first | exact Or.inl rfl | exact Or.inr rfl) (pe_fn T.law_pick G_law_pick (hr.mono (by decide)) (pa_cons (pv 0) (pa_cons pe_int pa_nil))))
   (pss_one (ps_ret (pe_ix (ixL K) (pe_lst (pa_cons (pe_op op_add pe_int (pe_fn T.law_pick G_law_pick (hr.mono (by decide)) (pa_cons (pv 0) (pa_cons pe_int pa_nil)))) (pa_cons (pe_fn T.law_pick G_law_pick (hr.mono (by decide)) (pa_cons (pv 0) (pa_cons pe_int pa_nil))) (pa_cons pe_int (pa_cons pe_int (pa_cons pe_int (pa_cons pe_int (pa_cons pe_int (pa_cons pe_int pa_nil))))))))) (pv 1) (fun _ _=>rfl))))),?_⟩
  refine ex1 rfl (ex3_6 (a:=p) rfl hL (by lia) (by decide) (by decide) fun d H1 hd k1 L1=>?_)
  refine ex1 rfl (ex3_6 (a:=p) rfl L1 (by lia) (by decide) (by decide) fun d1 H2 hd1 k2 L2=>?_)
  refine ex2_3 rfl rfl ?_
  refine ex1 rfl (ex3_6 (a:=p) rfl L2 (by lia) (by decide) (by decide) fun d2 H3 hd2 k3 L3=>?_)
  refine ⟨by show 8<=sizeLine; decide,fun l hl=>?_⟩
  refine o1_2 (size_at d1 d2 d (by lia) (by lia) (by lia)) fun n hn e=>?_
  have e3:=L3.get
  refine ex1 rfl ⟨l,_,ex2_3 rfl rfl ⟨SqL.of upd_same,e,?_⟩⟩
  exact q n _ hn (((k1.trans k2).trans k3).new hl) ((L3.cast (by lia)).upd (ne_of_none e3 hl))
end
end Sw
namespace Sw
open PySem L2
section
variable {P:Program} {w:World} {K:PySem.W.Frag} {mg:Str->Option Value} {base:Heap}
theorem LeftAt.ne {H:Hp} {p n:Addr} {c:Int} {ss:List Str} (h:LeftAt H p c) (hn:H n = some (.lst (ss.map V.str))):n ≠ p:=by
 rintro rfl
 refine o2_2 h fun a b e _=>?_
 try clear h
 rw [hn] at e
 cases ss with
 | nil=>cases e
 | cons x r=>cases e
theorem LeftAt.neP {H:Hp} {p n:Addr} {c:Int} {ss:List PA2} (h:LeftAt H p c) (hn:H n = some (.lst (refs ss))):n ≠ p:=by
 rintro rfl
 refine o2_2 h fun a b e _=>?_
 try clear h
 rw [hn] at e
 cases ss with
 | nil=>cases e
 | cons x r=>cases e
theorem often_at (d:Nat) (h:d < 4):∃ n:Nat,0 < n/\n<=9/\atI [V.int 4,V.int 6,V.int 9,V.int 3] (d:Int) = some (.int (n:Int)):=by
 suffices ∃ n:Nat,0 < n/\n<=9/\[V.int 4,V.int 6,V.int 9,V.int 3][d]? = some (.int (n:Int)) by
  refine o1_3 this fun n h1 h2 e=>?_
  try clear this
  exact ⟨n,h1,h2,atI_nat e⟩
 match d,h with
 | 0,_=>exact ⟨4,by lia,by lia,rfl⟩
 | 1,_=>exact ⟨6,by lia,by lia,rfl⟩
 | 2,_=>exact ⟨9,by lia,by lia,rfl⟩
 | 3,_=>exact ⟨3,by lia,by lia,rfl⟩
theorem sc_law_strikes:FnScope ["_law_left_here", "_law_names_here", "_law_found", "_law_often", "_law_one", "_law_other"] ["_law_left_here", "_law_names_here"] (defScope s_law_strikes):=⟨rfl,rfl,rfl,by decide +kernel,rfl,by decide +kernel,by decide +kernel⟩
noncomputable def sp_strikes (K:PySem.W.Frag):Sp:=fun vs H Q _=>∃ (p n:Addr) (c:Int) (ss:List Str),vs = [.ref p,.ref n]/\LeftAt H p c/\c<=900000/\H n = some (.lst (ss.map V.str))/\NamesOk ss/\ss.length<=10 /\
 ∀ l (ps:List PA2) c' H',H l = none->Sm [p] H H'->H' l = some (.lst (refs ps))->(∀ q ∈ ps,PairIn H' q)->StrkOk ss ps->c'<=c + 1000->LeftAt H' p c'->Q (.ref l) H'
noncomputable def SI (H:Hp) (p f:Addr) (ss:List Str) (b:Int) (H1:Hp):Prop:=Sm [p] H H1/\(∃ c',c'<=b/\LeftAt H1 p c')/\∃ ps,FL H1 f ps ss
set_option maxHeartbeats 4000000 in
theorem ok_law_strikes (T:Tx K mg):FnOk P w K mg base CX0 3 T.law_strikes.f T.law_strikes.fd ["_law_left_here", "_law_names_here"] (sp_strikes K):=by
 have G_law_pick:FnOk P w K mg base CX0 2 T.law_pick.f T.law_pick.fd ["_law_left_here", "_law_many"] sp_pick:=ok_law_pick T
 have sc:=sc_law_strikes
 refine T.law_strikes.F.ok sc_law_strikes (fun vs H Q E h=>?_) (fun cdv A outer s H vs Q E hr h=>?_)
 ·refine o4_2 h fun p n c ss zq20 _=>?_
  try clear h
  subst zq20
  rfl
 ·refine o4_7 h fun p n c ss zq21 hL c1 hn hN hlen q=>?_
  try clear h
  subst zq21
  refine o2_2 (id hL) fun a0 b0 e0 c0=>?_
  refine ⟨_,(pss_cons (ps_set (i:=2) sc.nd rfl (by first | exact Or.inl rfl | exact Or.inr rfl) (pe_lst pa_nil))
   (pss_cons (ps_set (i:=3) sc.nd rfl (by first | exact Or.inl rfl | exact Or.inr rfl) (pe_ix (ixL K) (pe_lst (pa_cons pe_int (pa_cons pe_int (pa_cons pe_int (pa_cons pe_int pa_nil))))) (pe_fn T.law_pick G_law_pick (hr.mono (by decide)) (pa_cons (pv 0) (pa_cons pe_int pa_nil))) (fun _ _=>rfl)))
   (pss_cons (ps_for PassesOwn.never rfl (piL K (pv 1)) (pg_name (i:=4) sc.nd rfl (by first | exact Or.inl rfl | exact Or.inr rfl))
   (pss_cons (ps_for PassesOwn.never rfl (piL K (pv 1)) (pg_name (i:=5) sc.nd rfl (by first | exact Or.inl rfl | exact Or.inr rfl))
   (pss_one (ps_if (PW.pt (pw_and (pt_cmpR op_ne (pv 4) (pv 5) (nomark _)) (pw_and (pt_cmpR op_eq (pe_fn T.law_pick G_law_pick (hr.mono (by decide)) (pa_cons (pv 0) (pa_cons (pv 3) pa_nil))) pe_int (nomark _)) (pw_and1 (pt_cmpR (o_notInD K hr.units) (pe_tup (pa_cons (pv 4) (pa_cons (pv 5) pa_nil))) (pv 2) rfl))))) (pss_cons (ps_expr (peBM K PySem.F.plainAttrs_list PySem.F.slot_list_insert PySem.F.type_list_insert mt_insert (pv 2) (pa_cons (pe_fn T.law_pick G_law_pick (hr.mono (by decide)) (pa_cons (pv 0) (pa_cons (pe_op op_add (pe_bf (cl_len K) T.b_len bt_len (pa_cons (pv 2) pa_nil)) pe_int) pa_nil))) (pa_cons (pe_tup (pa_cons (pv 4) (pa_cons (pv 5) pa_nil))) pa_nil))))
   (pss_one (ps_if (PW.pt (pw_and (pt_cmpR op_eq (pe_fn T.law_pick G_law_pick (hr.mono (by decide)) (pa_cons (pv 0) (pa_cons pe_int pa_nil))) pe_int (nomark _)) (pw_and1 (pt_cmpR (o_notInD K hr.units) (pe_tup (pa_cons (pv 5) (pa_cons (pv 4) pa_nil))) (pv 2) rfl)))) (pss_one (ps_expr (peBM K PySem.F.plainAttrs_list PySem.F.slot_list_append PySem.F.type_list_append mt_append (pv 2) (pa_cons (pe_tup (pa_cons (pv 5) (pa_cons (pv 4) pa_nil))) pa_nil)))) pss_nil))) pss_nil)))
   (pss_one (ps_if (PW.pt (pw_and (pt_cmpR op_eq (pe_fn T.law_pick G_law_pick (hr.mono (by decide)) (pa_cons (pv 0) (pa_cons pe_int pa_nil))) pe_int (nomark _)) (pw_and1 (pt_cmpR (o_notInD K hr.units) (pe_tup (pa_cons (pv 4) (pa_cons (pv 4) pa_nil))) (pv 2) rfl)))) (pss_one (ps_expr (peBM K PySem.F.plainAttrs_list PySem.F.slot_list_append PySem.F.type_list_append mt_append (pv 2) (pa_cons (pe_tup (pa_cons (pv 4) (pa_cons (pv 4) pa_nil))) pa_nil)))) pss_nil))))
   (pss_one (ps_ret (pv 2)))))),?_⟩
  refine ⟨Nat.zero_le _,fun f hf=>?_⟩
  have npf:p ≠ f:=ne_of_none e0 hf
  have nnf:n ≠ f:=ne_of_none hn hf
  have nnp:n ≠ p:=hL.ne hn
  have nnD:n ∉ [p]:=by simpa using nnp
  have nm:∀ x ∈ ss,PySem.PyData.strOk x = true:=fun x hx=>nameB_ok (hN.1 x hx)
  refine ⟨by show 4<=sizeLine; decide,fun t ht=>?_⟩
  have s1:Same H (upd (upd H f (.lst [])) t (.lst [.int 4,.int 6,.int 9,.int 3])):=(Same.new hf).trans (Same.new ht)
  have ef:(upd (upd H f (.lst [])) t (.lst [.int 4,.int 6,.int 9,.int 3])) f = some (.lst []):=by rw [upd_ne (ne_of_none upd_same ht),upd_same]
  refine ex1 rfl (ex3_6 (a:=p) (b:=c) rfl (hL.same s1) (by lia) (by decide) (by decide) fun d H1 hd k1 L1=>?_)
  refine o1_3 (often_at d (by lia)) fun often o1 o2 eo=>?_
  have hpt:p ≠ t:=ne_of_none ((Same.new hf) _ _ e0) ht
  refine ⟨t,_,ex2_3 rfl rfl ⟨SqL.of (Sm1 k1 upd_same hpt.symm),eo,?_⟩⟩
  have i0:SI H p f ss (c + 1) H1:=⟨s1.sm.trans k1,⟨_,Int.le_refl _,L1⟩,[],Sm1 k1 ef npf.symm,by simp,by simp,by simp⟩
  have hseq:∀ {H1 b},SI H p f ss b H1->SqL K H1 n (ss.map V.str):=fun h=>(h.1.at nnD).seqL (SqL.of hn)
  refine ex1 rfl ⟨n,rfl,⟨_,hseq i0⟩,?_⟩
  refine for_asG (asL (K:=K) (SqL.of hn)) (fun i σ H1=>(∃ v4 v5,σ = [some (.ref p),some (.ref n),some (.ref f),some (.int (often:Int)),v4,v5])/\SI H p f ss (c + 1 + 31 * i) H1) ?_ ?_ ?_ ?_
  ·exact ⟨⟨_,_,rfl⟩,by simpa using i0⟩
  ·intro i σ H1 hi zq22
   refine o0_2 zq22 fun _ h1=>?_
   exact h1.1.at nnD
  ·intro i σ H1 x hx zq23 D1 hD1 _
   refine o0_2 zq23 fun zq24 h1=>?_
   refine o2_1 zq24 fun v4 v5 zq25=>?_
   subst zq25
   rw [List.getElem?_map] at hx
   obtain ⟨one,ho,rfl⟩:∃ y,ss[i]? = some y/\V.str y = x:=by
    cases e:ss[i]? with
    | none=>rw [e] at hx; cases hx
    | some y=>rw [e] at hx; exact ⟨y,rfl,by injection hx⟩
   have hone:one ∈ ss:=List.mem_of_getElem? ho
   have hi:i < ss.length:=(List.getElem?_eq_some_iff.mp ho).1
   refine ex1 rfl ⟨n,rfl,⟨_,hseq h1⟩,?_⟩
   refine for_asG (asL (K:=K) (SqL.of hn)) (fun j σ H1=>(∃ v5,σ = [some (.ref p),some (.ref n),some (.ref f),some (.int (often:Int)),some (.str one),v5])/\SI H p f ss (c + 1 + 31 * i + 3 * j) H1) ?_ ?_ ?_ ?_
   ·exact ⟨⟨_,rfl⟩,by simpa using h1⟩
   ·intro i σ H1 hi zq26
    refine o0_2 zq26 fun _ h1=>?_
    exact h1.1.at nnD
   ·intro j σ H1 x hx zq27 D2 hD2 _
    refine o0_2 zq27 fun zq28 h1=>?_
    refine o1_1 zq28 fun v5 zq29=>?_
    subst zq29
    rw [List.getElem?_map] at hx
    obtain ⟨oth,ho,rfl⟩:∃ y,ss[j]? = some y/\V.str y = x:=by
     cases e:ss[j]? with
     | none=>rw [e] at hx; cases hx
     | some y=>rw [e] at hx; exact ⟨y,rfl,by injection hx⟩
    have hoth:oth ∈ ss:=List.mem_of_getElem? ho
    have hj:j < ss.length:=(List.getElem?_eq_some_iff.mp ho).1
    obtain ⟨k1,zq30,ps,F1⟩:=h1
    refine o1_2 zq30 fun c' hc' L1=>?_
    have done:∀ {H2 c2 ps2},Sm [p] H H2->c2<=c' + 3->LeftAt H2 p c2->FL H2 f ps2 ss->SI H p f ss (c + 1 + 31 * i + 3 * ((j + 1:Nat):Int)) H2:=fun {H2 c2 ps2} a b d e=>⟨a,⟨c2,by lia,d⟩,ps2,e⟩
    refine ex1 rfl (ex1 rfl ⟨rfl,ex1 rfl ?_⟩)
    refine ite2 (fun h1=>?_) (fun h1=>iteF (hD2 _ _ ⟨⟨_,rfl⟩,done k1 (by lia) L1 F1⟩))
    refine ex1 rfl (ex1 rfl (ex3_6 (a:=p) (b:=c') rfl L1 (by lia) (by lia) (by lia) fun d1 H2 hd1 k2 L2=>⟨rfl,_,rfl,?_⟩))
    have F2:=F1.sm L1 npf.symm k2
    refine ite2 (fun h2=>?_) (fun h2=>iteF (hD2 _ _ ⟨⟨_,rfl⟩,done (k1.trans k2) (by lia) L2 F2⟩))
    refine ex1 rfl (ex1 rfl ⟨by show 2<=sizeLine; decide,fun t2 ht2=>?_⟩)
    have F3:=F2.new (o:=.tup [.str one,.str oth]) ht2
    have e2:=L2.get
    have L3:=L2.upd (o:=.tup [.str one,.str oth]) (ne_of_none e2 ht2)
    have k3:=(k1.trans k2).new (o:=.tup [.str one,.str oth]) ht2
    refine ex1 rfl (notIn_pair (k:=(one,oth)) upd_same F3.at_ F3.pin ⟨nm _ hone,nm _ hoth⟩ (fun q hq=>⟨nm _ (F3.nm q hq).1,nm _ (F3.nm q hq).2⟩) ⟨_,rfl,?_⟩)
    refine ite2 (fun h3=>?_) (fun h3=>hD2 _ _ ⟨⟨_,rfl⟩,done k3 (by lia) L3 F3⟩)
    have h3':(one,oth) ∉ ps.map fun q=>q.2:=by simpa using h3
    have lps:=F3.len
    have lps':ps.length<=100:=Nat.le_trans lps (Nat.mul_le_mul hlen hlen)
    have rl:(refs ps).length = ps.length:=by unfold refs; rw [List.length_map]
    refine ex1 rfl ⟨.inl ⟨rfl,_,SqL.of F3.at_⟩,ex1 rfl (ex1 rfl (ex2_3 (a:=f) rfl (.inl (SqL.of F3.at_)) (ex2_3 rfl rfl (ex3_6 (a:=p) (b:=c' + 1) rfl L3 (by lia) (by lia) (by lia) fun d2 H4 hd2 k4 L4=>?_))))⟩
    have F4:=F3.sm L3 npf.symm k4
    refine ex1 rfl (ex1 rfl ⟨by show 2<=sizeLine; decide,fun t3 ht3=>?_⟩)
    have F5:=F4.new (o:=.tup [.str one,.str oth]) ht3
    have e4:=L4.get
    have L5:=L4.upd (o:=.tup [.str one,.str oth]) (ne_of_none e4 ht3)
    have k5:=(k3.trans k4).new (o:=.tup [.str one,.str oth]) ht3
    refine ⟨f,_,_,d2,ex1 rfl ⟨rfl,rfl,F5.at_,by lia,by rw [sizeLine_eq]; lia,?_⟩⟩
    have F6:=F5.put d2 upd_same hone hoth h3'
    have L6:=L5.upd (o:=.lst ((refs ps).take d2 ++ V.ref t3 :: (refs ps).drop d2)) npf
    have k6:=k5.updN (o:=.lst ((refs ps).take d2 ++ V.ref t3 :: (refs ps).drop d2)) hf
    generalize hps:ps.take d2 ++ (t3,one,oth) :: ps.drop d2 = ps' at F6
    refine ex1 rfl (ex3_6 (a:=p) rfl L6 (by lia) (by decide) (by decide) fun d3 H7 hd3 k7 L7=>⟨rfl,_,rfl,?_⟩)
    have F7:=F6.sm L6 npf.symm k7
    refine ite2 (fun h4=>?_) (fun h4=>iteF (hD2 _ _ ⟨⟨_,rfl⟩,done (k6.trans k7) (by lia) L7 F7⟩))
    refine ex1 rfl (ex1 rfl ⟨by show 2<=sizeLine; decide,fun t4 ht4=>?_⟩)
    have F8:=F7.new (o:=.tup [.str oth,.str one]) ht4
    have e7:=L7.get
    have L8:=L7.upd (o:=.tup [.str oth,.str one]) (ne_of_none e7 ht4)
    have k8:=(k6.trans k7).new (o:=.tup [.str oth,.str one]) ht4
    refine ex1 rfl (notIn_pair (k:=(oth,one)) upd_same F8.at_ F8.pin ⟨nm _ hoth,nm _ hone⟩ (fun q hq=>⟨nm _ (F8.nm q hq).1,nm _ (F8.nm q hq).2⟩) ⟨_,rfl,?_⟩)
    refine ite2 (fun h5=>?_) (fun h5=>hD2 _ _ ⟨⟨_,rfl⟩,done k8 (by lia) L8 F8⟩)
    have h5':(oth,one) ∉ ps'.map fun q=>q.2:=by simpa using h5
    have lps:=F8.len
    have lps':ps'.length<=100:=Nat.le_trans lps (Nat.mul_le_mul hlen hlen)
    have rl:(refs ps').length = ps'.length:=by unfold refs; rw [List.length_map]
    refine ex1 rfl ⟨.inl ⟨rfl,_,SqL.of F8.at_⟩,ex1 rfl (ex1 rfl ⟨by show 2<=sizeLine; decide,fun t5 ht5=>?_⟩)⟩
    have F9:=F8.new (o:=.tup [.str oth,.str one]) ht5
    have e8:=L8.get
    have L9:=L8.upd (o:=.tup [.str oth,.str one]) (ne_of_none e8 ht5)
    have k9:=k8.new (o:=.tup [.str oth,.str one]) ht5
    refine ⟨f,ex2_3 rfl rfl ⟨F9.at_,by rw [sizeLine_eq]; lia,hD2 _ _ ⟨⟨_,rfl⟩,done (k9.updN hf) (by lia) (L9.upd npf) (F9.app upd_same hoth hone h5')⟩⟩⟩
   ·intro σ H1 zq31
    obtain ⟨zq32,k1,zq33,ps,F1⟩:=zq31
    refine o1_1 zq32 fun v5 zq34=>?_
    subst zq34
    refine o1_2 zq33 fun c' hc' L1=>?_
    simp only [List.length_map] at hc'
    have done:∀ {H2 c2 ps2},Sm [p] H H2->c2<=c' + 1->LeftAt H2 p c2->FL H2 f ps2 ss->SI H p f ss (c + 1 + 31 * ((i + 1:Nat):Int)) H2:=fun {H2 c2 ps2} a b d e=>⟨a,⟨c2,by lia,d⟩,ps2,e⟩
    refine ex1 rfl (ex3_6 (a:=p) (b:=c') rfl L1 (by lia) (by decide) (by decide) fun d3 H7 hd3 k7 L7=>⟨rfl,_,rfl,?_⟩)
    have F7:=F1.sm L1 npf.symm k7
    refine ite2 (fun h4=>?_) (fun h4=>iteF (hD1 _ _ ⟨⟨_,_,rfl⟩,done (k1.trans k7) (by lia) L7 F7⟩))
    refine ex1 rfl (ex1 rfl ⟨by show 2<=sizeLine; decide,fun t4 ht4=>?_⟩)
    have F8:=F7.new (o:=.tup [.str one,.str one]) ht4
    have e7:=L7.get
    have L8:=L7.upd (o:=.tup [.str one,.str one]) (ne_of_none e7 ht4)
    have k8:=(k1.trans k7).new (o:=.tup [.str one,.str one]) ht4
    refine ex1 rfl (notIn_pair (k:=(one,one)) upd_same F8.at_ F8.pin ⟨nm _ hone,nm _ hone⟩ (fun q hq=>⟨nm _ (F8.nm q hq).1,nm _ (F8.nm q hq).2⟩) ⟨_,rfl,?_⟩)
    refine ite2 (fun h5=>?_) (fun h5=>hD1 _ _ ⟨⟨_,_,rfl⟩,done k8 (by lia) L8 F8⟩)
    have h5':(one,one) ∉ ps.map fun q=>q.2:=by simpa using h5
    have lps:=F8.len
    have lps':ps.length<=100:=Nat.le_trans lps (Nat.mul_le_mul hlen hlen)
    have rl:(refs ps).length = ps.length:=by unfold refs; rw [List.length_map]
    refine ex1 rfl ⟨.inl ⟨rfl,_,SqL.of F8.at_⟩,ex1 rfl (ex1 rfl ⟨by show 2<=sizeLine; decide,fun t5 ht5=>?_⟩)⟩
    have F9:=F8.new (o:=.tup [.str one,.str one]) ht5
    have e8:=L8.get
    have L9:=L8.upd (o:=.tup [.str one,.str one]) (ne_of_none e8 ht5)
    have k9:=k8.new (o:=.tup [.str one,.str one]) ht5
    refine ⟨f,ex2_3 rfl rfl ⟨F9.at_,by rw [sizeLine_eq]; lia,hD1 _ _ ⟨⟨_,_,rfl⟩,done (k9.updN hf) (by lia) (L9.upd npf) (F9.app upd_same hone hone h5')⟩⟩⟩
  ·intro σ H1 zq35
   obtain ⟨zq36,k1,zq37,ps,F1⟩:=zq35
   refine o2_1 zq36 fun v4 v5 zq38=>?_
   subst zq38
   refine o1_2 zq37 fun c' hc' L1=>?_
   simp only [List.length_map] at hc'
   have lps:=F1.len
   have lps':ps.length<=100:=Nat.le_trans lps (Nat.mul_le_mul hlen hlen)
   exact ⟨_,rfl,q f ps c' H1 hf k1 F1.at_ F1.pin ⟨F1.nm,F1.nd,by lia⟩ (by lia) L1⟩
end
end Sw
namespace Sw
open PySem L2
section
variable {P:Program} {w:World} {K:PySem.W.Frag} {mg:Str->Option Value} {base:Heap}
noncomputable def all30:List Str:=["b", "ab", "x", "know", "c", "m", "ba", "aba", "xa", "knowa", "ca", "ma", "bbb", "abbb", "xbb", "knowbb", "cbb", "mbb", "bccc", "abccc", "xccc", "knowccc", "cccc", "mccc", "bdddd", "abdddd", "xdddd", "knowdddd", "cdddd", "mdddd"]
noncomputable abbrev six6:List Str:=["b", "ab", "x", "know", "c", "m"]
noncomputable abbrev five5:Str := "aabcd"
theorem all30_ok:(∀ x ∈ all30,nameB x = true)/\all30.Nodup:=⟨by decide +kernel,by decide +kernel⟩
noncomputable def nm30 (i:Nat):Option Str:=(six6[i % 6]?).bind fun x=>(five5.cps.toList[i / 6]?).map fun c=>x ++ repS ⟨#[c]⟩ (i / 6)
theorem nm30_all:∀ i:Fin 30,nm30 i.1 = all30[i.1]?/\((all30[i.1]?).map fun x=>decide (x.length<=8)) = some true:=by decide +kernel
theorem nm30_at {i:Nat} (h:i < 30):∃ x c y,atI (six6.map V.str) ((i:Int) % 6) = some (.str x)/\atI five5.cps.toList ((i:Int) / 6) = some c/\x ++ repS ⟨#[c]⟩ (i / 6) = y/\all30[i]? = some y/\x.length + (repS ⟨#[c]⟩ (i / 6)).length<=8:=by
 obtain ⟨h1,h2⟩:=nm30_all ⟨i,h⟩
 unfold nm30 at h1
 simp only at h1 h2
 cases e1:six6[i % 6]? with
 | none=>rw [e1] at h1; rw [<-h1] at h2; cases h2
 | some x =>
  cases e2:five5.cps.toList[i / 6]? with
  | none=>rw [e1,e2] at h1; rw [<-h1] at h2; cases h2
  | some c =>
   rw [e1,e2] at h1
   have h1:some (x ++ repS ⟨#[c]⟩ (i / 6)) = all30[i]?:=h1
   refine ⟨x,c,_,?_,?_,rfl,h1.symm,?_⟩
   ·exact atI_nat (j:=i % 6) (by rw [List.getElem?_map,e1]; rfl)
   ·exact atI_nat (j:=i / 6) e2
   ·rw [<-h1] at h2
    have:(x ++ repS ⟨#[c]⟩ (i / 6)).length<=8:=by
     have h2:some (decide ((x ++ repS ⟨#[c]⟩ (i / 6)).length<=8)) = some true:=h2
     exact of_decide_eq_true (Option.some.inj h2)
    have e:(x ++ repS ⟨#[c]⟩ (i / 6)).length = x.length + (repS ⟨#[c]⟩ (i / 6)).length:=Array.size_append
    lia
theorem sc_law_many_names:FnScope ["_law_left_here", "_law_many", "_law_some_here", "_law_k"] ["_law_left_here", "_law_many"] (defScope s_law_many_names):=⟨rfl,rfl,rfl,by decide +kernel,rfl,by decide +kernel,by decide +kernel⟩
noncomputable def sp_many_names:Sp:=fun vs H Q _=>∃ (p:Addr) (c:Int) (many:Nat),vs = [.ref p,.int (many:Int)]/\LeftAt H p c/\c<=900000/\many<=30 /\
 ∀ l (ss:List Str) H',H l = none->Sm [p] H H'->H' l = some (.lst (ss.map V.str))->ss.length = many->NamesOk ss->LeftAt H' p (c + many)->Q (.ref l) H'
set_option maxHeartbeats 2000000 in
theorem ok_law_many_names (T:Tx K mg):FnOk P w K mg base CX0 3 T.law_many_names.f T.law_many_names.fd ["_law_left_here", "_law_many"] sp_many_names:=by
 have G_law_pick:FnOk P w K mg base CX0 2 T.law_pick.f T.law_pick.fd ["_law_left_here", "_law_many"] sp_pick:=ok_law_pick T
 have sc:=sc_law_many_names
 refine T.law_many_names.F.ok sc_law_many_names (fun vs H Q E h=>?_) (fun cdv A outer s H vs Q E hr h=>?_)
 ·refine o3_2 h fun p c m zq39 _=>?_
  try clear h
  subst zq39
  rfl
 ·refine o3_5 h fun p c many zq40 hL c1 m1 q=>?_
  try clear h
  subst zq40
  refine o2_2 (id hL) fun a0 b0 e0 c0=>?_
  refine ⟨_,(pss_cons (ps_set (i:=2) sc.nd rfl (by first | exact Or.inl rfl | exact Or.inr rfl) (pe_lst pa_nil))
   (pss_cons (ps_for PassesOwn.never rfl (piR1 T.b_range (pa_cons pe_int pa_nil)) (pg_name (i:=3) sc.nd rfl (by first | exact Or.inl rfl | exact Or.inr rfl))
   (pss_one (ps_expr (peBM K PySem.F.plainAttrs_list PySem.F.slot_list_append PySem.F.type_list_append mt_append (pv 2) (pa_cons (pe_op op_add_str (pe_ix (ixL K) (pe_lst (pa_cons pe_str (pa_cons pe_str (pa_cons pe_str (pa_cons pe_str (pa_cons pe_str (pa_cons pe_str pa_nil))))))) (pe_op op_mod (pv 3) pe_int) (fun _ _=>rfl)) (pe_op op_rep_str (pe_ix ix_str pe_str (pe_op op_fdiv (pv 3) pe_int) (fun _ _=>rfl)) (pe_op op_fdiv (pv 3) pe_int))) pa_nil)))))
   (pss_one (ps_ret (pe_lc (N':=["_law_k", "_law_some_here", "_law_left_here"]) (cap:=[none,some 2,some 0]) (cl:=[("_law_some_here",_),("_law_left_here",_)]) (cs_mk ⟨⟨rfl,rfl,rfl,rfl⟩,⟨⟨rfl,rfl,rfl,rfl⟩,trivial⟩⟩ ⟨rfl,⟨rfl,trivial⟩⟩) rfl (piR1 T.b_range (pa_cons (pv 1) pa_nil)) (fun _ _ _ _=>by exact ⟨(pgC 0),pts_nil,(peBM K PySem.F.plainAttrs_list PySem.F.slot_list_pop PySem.F.type_list_pop mt_popAt (pv 1) (pa_cons (pe_fn T.law_pick G_law_pick (hr.mono (by decide)) (pa_cons (pv 2) (pa_cons (pe_bf (cl_len K) T.b_len bt_len (pa_cons (pv 1) pa_nil)) pa_nil))) pa_nil))⟩)))))),?_⟩
  refine ⟨Nat.zero_le _,fun a ha=>?_⟩
  have npa:p ≠ a:=ne_of_none e0 ha
  refine ex1 rfl ⟨by decide,by decide,?_⟩
  refine for_rangeG (fun i σ H1=>(∃ v3,σ = [some (.ref p),some (.int (many:Int)),some (.ref a),v3])/\Same H H1/\H1 a = some (.lst ((all30.take i).map V.str))) ?_ ?_ ?_
  ·exact ⟨⟨_,rfl⟩,Same.new ha,upd_same⟩
  ·intro i σ H1 hi zq41 D1 hD1 _
   refine o0_3 zq41 fun zq42 s1 ea=>?_
   refine o1_1 zq42 fun v3 zq43=>?_
   subst zq43
   have hi:i < 30:=hi
   refine o3_5 (nm30_at hi) fun x ch y n1 n2 n3 n4 n5=>?_
   rw [Int.zero_add]
   refine ex1 rfl ⟨.inl ⟨rfl,_,SqL.of ea⟩,by show 6<=sizeLine; decide,fun t ht=>?_⟩
   have nat:a ≠ t:=ne_of_none ea ht
   refine ex1 rfl (ex2_3 rfl rfl ⟨(show (0:Int) < 6 by decide),t,_,ex2_3 rfl rfl ⟨SqL.of upd_same,n1,ex1 rfl (ex2_3 rfl rfl ⟨⟨by decide,by decide⟩,_,ex2_3 rfl rfl ⟨by decide,n2,ex1 rfl (ex2_3 rfl rfl ⟨⟨by decide,by decide⟩,_,_,i / 6,rfl,rfl,by lia,by lia,by show 1<=1000; decide,ex2_3 rfl rfl ⟨by rw [sizeLine_eq]; lia,?_⟩⟩)⟩⟩)⟩⟩)
   rw [n3]
   refine ⟨a,ex2_3 rfl rfl ⟨by rw [upd_ne nat]; exact ea,?_,hD1 _ _ ⟨⟨_,rfl⟩,?_,?_⟩⟩⟩
   ·rw [List.length_map,List.length_take,sizeLine_eq]; lia
   ·exact (s1.trans (Same.new ht)).upd ha
   ·rw [upd_same,take_succ n4,List.map_append]; rfl
  ·intro σ H1 zq44
   refine o0_3 zq44 fun zq45 s1 ea=>?_
   refine o1_1 zq45 fun v3 zq46=>?_
   subst zq46
   have ea:H1 a = some (.lst (all30.map V.str)):=ea
   dsimp only [tSeq,tAsg,gName,tRet,tCB,tCons,tNil]
   refine ex1 rfl (ex1 rfl ⟨by lia,by lia,fun D hD=>?_⟩)
   have npD:p ≠ D:=ne_of_none (s1 _ _ e0) hD
   have naD:a ≠ D:=ne_of_none ea hD
   have hD0:H D = none:=s1.free hD
   rw [Int.toNat_natCast]
   refine loop_J (n:=many) (fun i σ H1=>(∃ v0,σ = [v0,some (.ref a),some (.ref p)])/\Sm [p] H H1/\LeftAt H1 p (c + i)/\∃ rest got:List Str,H1 a = some (.lst (rest.map V.str))/\H1 D = some (.lst (got.map V.str))/\(rest ++ got).Perm all30/\got.length = i) ?_ ?_ ?_ ?_ ?_
   ·exact ⟨⟨_,rfl⟩,(s1.trans (Same.new hD)).sm,(hL.cast (by lia)).same (s1.trans (Same.new hD)),all30,[],by rw [upd_ne naD]; exact ea,upd_same,by rw [List.append_nil],rfl⟩
   ·intro i σ H1 hi _
    exact hi
   ·intro σ H1 _
    exact Nat.le_refl _
   ·intro i σ H1 x H' N hi zq47 zq48 hN
    obtain ⟨zq49,k1,L1,rest,got,ea,eb,pm,hg⟩:=zq47
    refine o1_1 zq49 fun v0 zq50=>?_
    subst zq50
    refine o0_2 zq48 fun zq51 zq52=>?_
    subst zq51
    subst zq52
    have hlen:rest.length = 30 - i:=by
     have:=pm.length_eq
     rw [List.length_append,hg] at this
     have:rest.length + i = 30:=this
     lia
    refine g_true ?_
    refine ex1 rfl ⟨.inl ⟨rfl,_,SqL.of ea⟩,ex1 rfl (ex1 rfl (ex2_3 (a:=a) rfl (.inl (SqL.of ea)) (ex3_6 (a:=p) (b:=c + i) rfl L1 (by lia) ?_ ?_ fun d H2 hd k2 L2=>?_)))⟩
    ·rw [List.length_map]; lia
    ·rw [List.length_map]; lia
    rw [List.length_map] at hd
    have hd':d < rest.length:=by lia
    have hx:rest[d]? = some rest[d]:=List.getElem?_eq_getElem hd'
    have ea2:=Sm1 k2 ea npa.symm
    have eb2:=Sm1 k2 eb npD.symm
    refine ⟨a,_,_,d,.str rest[d],rfl,rfl,ea2,by lia,by lia,six (by rw [List.length_map]; exact hd'),by rw [List.getElem?_map,hx]; rfl,_,by rw [upd_ne naD.symm]; exact eb2,?_,?_⟩
    ·rw [List.length_map,sizeLine_eq]; lia
    refine hN _ _ ⟨⟨_,rfl⟩,?_,?_,rest.eraseIdx d,got ++ [rest[d]],?_,?_,pop_perm pm hx,by rw [List.length_append,hg]; rfl⟩
    ·exact ((k1.trans k2).updN ha).updN hD0
    ·exact ((L2.cast (by lia)).upd npa).upd npD
    ·rw [upd_ne naD,upd_same,map_erase]
    ·rw [upd_same,List.map_append]; rfl
   ·intro σ H1 zq53
    obtain ⟨zq54,k1,L1,rest,got,ea,eb,pm,hg⟩:=zq53
    refine o1_1 zq54 fun v0 zq55=>?_
    subst zq55
    exact q D got H1 hD0 k1 eb hg (names_of pm all30_ok.1 all30_ok.2 (by decide)) L1
end
end Sw
namespace Sw
open PySem L2
section
variable {P:Program} {w:World} {K:PySem.W.Frag} {mg:Str->Option Value} {base:Heap}
theorem sc_law_few_strikes:FnScope ["_law_left_here", "_law_names_here", "_law_strikes_here", "_law_turn", "_law_pair"] ["_law_left_here", "_law_names_here"] (defScope s_law_few_strikes):=⟨rfl,rfl,rfl,by decide +kernel,rfl,by decide +kernel,by decide +kernel⟩
noncomputable def sp_few_strikes:Sp:=fun vs H Q _=>∃ (p n:Addr) (c:Int) (ss:List Str),vs = [.ref p,.ref n]/\LeftAt H p c/\c<=900000/\H n = some (.lst (ss.map V.str))/\NamesOk ss/\0 < ss.length/\ss.length<=30 /\
 ∀ l (ps:List PA2) c' H',H l = none->Sm [p] H H'->H' l = some (.lst (refs ps))->(∀ q ∈ ps,PairIn H' q)->StrkOk ss ps->c'<=c + 1000->LeftAt H' p c'->Q (.ref l) H'
set_option maxHeartbeats 4000000 in
theorem ok_law_few_strikes (T:Tx K mg):FnOk P w K mg base CX0 3 T.law_few_strikes.f T.law_few_strikes.fd ["_law_left_here", "_law_names_here"] sp_few_strikes:=by
 have G_law_pick:FnOk P w K mg base CX0 2 T.law_pick.f T.law_pick.fd ["_law_left_here", "_law_many"] sp_pick:=ok_law_pick T
 have sc:=sc_law_few_strikes
 refine T.law_few_strikes.F.ok sc_law_few_strikes (fun vs H Q E h=>?_) (fun cdv A outer s H vs Q E hr h=>?_)
 ·refine o4_2 h fun p n c ss zq56 _=>?_
  try clear h
  subst zq56
  rfl
 ·refine o4_8 h fun p n c ss zq57 hL c1 hn hN hpos hlen q=>?_
  try clear h
  subst zq57
  refine o2_2 (id hL) fun a0 b0 e0 c0=>?_
  refine ⟨_,(pss_cons (ps_set (i:=2) sc.nd rfl (by first | exact Or.inl rfl | exact Or.inr rfl) (pe_lst pa_nil))
   (pss_cons (ps_for PassesOwn.never rfl (piR1 T.b_range (pa_cons (pe_fn T.law_pick G_law_pick (hr.mono (by decide)) (pa_cons (pv 0) (pa_cons (pe_op op_add (pe_op op_mul pe_int (pe_bf (cl_len K) T.b_len bt_len (pa_cons (pv 1) pa_nil))) pe_int) pa_nil))) pa_nil)) (pg_name (i:=3) sc.nd rfl (by first | exact Or.inl rfl | exact Or.inr rfl))
   (pss_cons (ps_set (i:=4) sc.nd rfl (by first | exact Or.inl rfl | exact Or.inr rfl) (pe_tup (pa_cons (pe_ix (ixL K) (pv 1) (pe_fn T.law_pick G_law_pick (hr.mono (by decide)) (pa_cons (pv 0) (pa_cons (pe_bf (cl_len K) T.b_len bt_len (pa_cons (pv 1) pa_nil)) pa_nil))) (fun _ _=>rfl)) (pa_cons (pe_ix (ixL K) (pv 1) (pe_fn T.law_pick G_law_pick (hr.mono (by decide)) (pa_cons (pv 0) (pa_cons (pe_bf (cl_len K) T.b_len bt_len (pa_cons (pv 1) pa_nil)) pa_nil))) (fun _ _=>rfl)) pa_nil))))
   (pss_one (ps_if (pt_cmpR (o_notInD K hr.units) (pv 4) (pv 2) rfl) (pss_one (ps_expr (peBM K PySem.F.plainAttrs_list PySem.F.slot_list_append PySem.F.type_list_append mt_append (pv 2) (pa_cons (pv 4) pa_nil)))) pss_nil))))
   (pss_one (ps_ret (pv 2))))),?_⟩
  refine ⟨Nat.zero_le _,fun f hf=>?_⟩
  have npf:p ≠ f:=ne_of_none e0 hf
  have nnf:n ≠ f:=ne_of_none hn hf
  have nnp:n ≠ p:=hL.ne hn
  have nnD:n ∉ [p]:=by simpa using nnp
  have nm:∀ x ∈ ss,PySem.PyData.strOk x = true:=fun x hx=>nameB_ok (hN.1 x hx)
  have lm:(ss.map V.str).length = ss.length:=List.length_map ..
  have s1:Same H (upd H f (.lst [])):=Same.new hf
  have at1:∀ d:Nat,(d:Int) < (ss.length:Int)->∃ x,x ∈ ss/\atI (ss.map V.str) (d:Int) = some (.str x):=fun d hd=>by
   have hd:d < ss.length:=by lia
   exact ⟨ss[d],List.getElem_mem hd,atI_nat (by rw [List.getElem?_map,List.getElem?_eq_getElem hd]; rfl)⟩
  refine ex1 rfl (ex1 rfl (ex2_3 (a:=n) rfl (.inl (SqL.of (s1 _ _ hn))) (ex2_3 rfl rfl ⟨.inl ⟨by decide,by decide⟩,ex2_3 rfl rfl (ex3_6 (a:=p) (b:=c) rfl (hL.same s1) (by lia) ?_ ?_ fun m H1 hm k1 L1=>?_)⟩)))
  ·rw [lm]; lia
  ·rw [lm]; lia
  rw [lm] at hm
  have hm':m<=60:=by lia
  refine ex1 rfl ⟨by lia,by lia,?_⟩
  rw [Int.toNat_natCast]
  refine for_rangeG (fun i σ H1=>(∃ v3 v4,σ = [some (.ref p),some (.ref n),some (.ref f),v3,v4])/\Sm [p] H H1/\LeftAt H1 p (c + 1 + 2 * i)/\∃ ps,FL H1 f ps ss/\ps.length<=i) ?_ ?_ ?_
  ·exact ⟨⟨_,_,rfl⟩,s1.sm.trans k1,L1.cast (by lia),[],⟨Sm1 k1 upd_same npf.symm,by simp,by simp,by simp⟩,Nat.le_refl _⟩
  ·intro i σ H1 hi zq58 D1 hD1 _
   obtain ⟨zq59,k1,L1,ps,F1,lp⟩:=zq58
   refine o2_1 zq59 fun v3 v4 zq60=>?_
   subst zq60
   have sq:∀ {H1},Sm [p] H H1->SqL K H1 n (ss.map V.str):=fun h=>(h.at nnD).seqL (SqL.of hn)
   refine ex1 rfl (ex1 rfl (ex1 rfl (ex2_3 (a:=n) rfl (.inl (sq k1)) (ex3_6 (a:=p) rfl L1 (by lia) ?_ ?_ fun d1 H2 hd1 k2 L2=>?_))))
   ·rw [lm]; lia
   ·rw [lm]; lia
   rw [lm] at hd1
   refine o1_2 (at1 d1 hd1) fun x hx ex=>?_
   have F2:=F1.sm L1 npf.symm k2
   refine ⟨n,_,ex2_3 rfl rfl ⟨sq (k1.trans k2),ex,?_⟩⟩
   refine ex1 rfl (ex1 rfl (ex1 rfl (ex2_3 (a:=n) rfl (.inl (sq (k1.trans k2))) (ex3_6 (a:=p) rfl L2 (by lia) ?_ ?_ fun d2 H3 hd2 k3 L3=>?_))))
   ·rw [lm]; lia
   ·rw [lm]; lia
   rw [lm] at hd2
   refine o1_2 (at1 d2 hd2) fun y hy ey=>?_
   have F3:=F2.sm L2 npf.symm k3
   have k3:=(k1.trans k2).trans k3
   refine ⟨n,_,ex2_3 rfl rfl ⟨sq k3,ey,by show 2<=sizeLine; decide,fun t ht=>?_⟩⟩
   have F4:=F3.new (o:=.tup [.str x,.str y]) ht
   have e3:=L3.get
   have L4:=L3.upd (o:=.tup [.str x,.str y]) (ne_of_none e3 ht)
   have k4:=k3.new (o:=.tup [.str x,.str y]) ht
   refine ex1 rfl (ex1 rfl (notIn_pair (k:=(x,y)) upd_same F4.at_ F4.pin ⟨nm _ hx,nm _ hy⟩ (fun q hq=>⟨nm _ (F4.nm q hq).1,nm _ (F4.nm q hq).2⟩) ⟨_,rfl,?_⟩))
   refine ite2 (fun h5=>?_) (fun h5=>hD1 _ _ ⟨⟨_,_,rfl⟩,k4,L4.cast (by lia),ps,F4,by lia⟩)
   have h5':(x,y) ∉ ps.map fun q=>q.2:=by simpa using h5
   have rl:(refs ps).length = ps.length:=by unfold refs; rw [List.length_map]
   refine ex1 rfl ⟨.inl ⟨rfl,_,SqL.of F4.at_⟩,ex1 rfl ⟨f,ex2_3 rfl rfl ⟨F4.at_,by rw [sizeLine_eq]; lia,hD1 _ _ ⟨⟨_,_,rfl⟩,k4.updN hf,(L4.cast (by lia)).upd npf,_,F4.app upd_same hx hy h5',by rw [List.length_append]; show ps.length + 1<=_; lia⟩⟩⟩⟩
  ·intro σ H1 zq61
   obtain ⟨zq62,k1,L1,ps,F1,lp⟩:=zq61
   refine o2_1 zq62 fun v4 v5 zq63=>?_
   subst zq63
   exact ⟨_,rfl,q f ps _ H1 hf k1 F1.at_ F1.pin ⟨F1.nm,F1.nd,by lia⟩ (by lia) L1⟩
end
end Sw
namespace Sw
open PySem L2
theorem bor (x y:Nat):Builtin.bitOr (x:Int) (y:Int) = ((x ||| y:Nat):Int):=by
 have h1:¬ 0<=Builtin.bitNot (x:Int):=by unfold Builtin.bitNot; lia
 have h2:¬ 0<=Builtin.bitNot (y:Int):=by unfold Builtin.bitNot; lia
 have h3:∀ z:Int,Builtin.bitNot (Builtin.bitNot z) = z:=fun z=>by unfold Builtin.bitNot; lia
 rw [Builtin.bitOr,PyProof.Rows.bitAnd_nn h1 h2,h3,h3,h3]
 rfl
theorem band (x y:Nat):Builtin.bitAnd (x:Int) (y:Int) = ((x &&& y:Nat):Int):=by simp [Builtin.bitAnd]
theorem shl1 (k:Nat):(1:Int) * 2 ^ ((k:Int).toNat) = ((2 ^ k:Nat):Int):=by rw [Int.one_mul,Int.toNat_natCast,Int.natCast_pow]; rfl
theorem bit_at (m k:Nat):decide (V.int (Builtin.bitAnd ((m:Int) / 2 ^ ((k:Int).toNat)) 1) = V.int 1) = m.testBit k:=by
 have e1:(m:Int) / 2 ^ ((k:Int).toNat) = ((m / 2 ^ k:Nat):Int):=by rw [Int.toNat_natCast,Int.natCast_ediv,Int.natCast_pow]; rfl
 have e2:Builtin.bitAnd ((m / 2 ^ k:Nat):Int) 1 = ((m / 2 ^ k % 2:Nat):Int):=by
  rw [show (1:Int) = ((1:Nat):Int) from rfl,band,Nat.and_one_is_mod]
 rw [e1,e2,Nat.testBit_eq_decide_div_mod_eq]
 refine decide_eq_decide.mpr ⟨fun h=>?_,fun h=>?_⟩
 ·injection h with h
  lia
 ·rw [h]; rfl
noncomputable def natV (m:Nat):V:=.int (m:Int)
structure MB (ns:List Str) (ks:List (Str × Str)) (B:List Nat):Prop where
 len:B.length = ns.length
 bit:∀ i j,(B.getD i 0).testBit j = true ↔ ∃ k ∈ ks,ns[i]? = some k.1/\ns[j]? = some k.2
theorem MB.zero (ns:List Str):MB ns [] (List.replicate ns.length 0):=by
 refine ⟨List.length_replicate,fun i j=>?_⟩
 have e:(List.replicate ns.length 0).getD i 0 = 0:=by
  rw [List.getD_eq_getElem?_getD,List.getElem?_replicate]
  by_cases h:i < ns.length
  ·rw [if_pos h]; rfl
  ·rw [if_neg h]; rfl
 rw [e,Nat.zero_testBit]
 simp
theorem nodup_at {α:Type} {l:List α} (h:l.Nodup) {i j:Nat} {x:α} (hi:l[i]? = some x) (hj:l[j]? = some x):i = j:=by
 obtain ⟨a,e⟩:=List.getElem?_eq_some_iff.mp hi
 obtain ⟨b,e'⟩:=List.getElem?_eq_some_iff.mp hj
 exact (List.getElem_inj h).mp (e.trans e'.symm)
theorem MB.step {ns:List Str} {ks:List (Str × Str)} {B:List Nat} (h:MB ns ks B) (nd:ns.Nodup) {a b:Nat} {x y:Str} (ha:ns[a]? = some x) (hb:ns[b]? = some y):MB ns (ks ++ [(x,y)]) (B.set a (B.getD a 0 ||| 2 ^ b)):=by
 have hlt:a < B.length:=by rw [h.len]; exact (List.getElem?_eq_some_iff.mp ha).1
 refine ⟨by rw [List.length_set]; exact h.len,fun i j=>?_⟩
 by_cases e:a = i
 ·subst e
  have e:(B.set a (B.getD a 0 ||| 2 ^ b)).getD a 0 = B.getD a 0 ||| 2 ^ b:=by
   rw [List.getD_eq_getElem?_getD,List.getElem?_set_self hlt]; rfl
  rw [e,Nat.testBit_or,Bool.or_eq_true,h.bit,Nat.testBit_two_pow,decide_eq_true_iff]
  constructor
  ·rintro (⟨k,hk,h1,h2⟩ | rfl)
   ·exact ⟨k,List.mem_append_left _ hk,h1,h2⟩
   ·exact ⟨(x,y),List.mem_append_right _ (List.mem_singleton.mpr rfl),ha,hb⟩
  ·intro zq64
   refine o1_3 zq64 fun k hk h1 h2=>?_
   rcases List.mem_append.mp hk with hk | hk
   ·exact .inl ⟨k,hk,h1,h2⟩
   ·rw [List.mem_singleton.mp hk] at h2
    exact .inr (nodup_at nd hb h2)
 ·have e':(B.set a (B.getD a 0 ||| 2 ^ b)).getD i 0 = B.getD i 0:=by
   rw [List.getD_eq_getElem?_getD,List.getElem?_set_ne e,<-List.getD_eq_getElem?_getD]
  rw [e',h.bit]
  constructor
  ·intro zq65
   refine o1_3 zq65 fun k hk h1 h2=>?_
   exact ⟨k,List.mem_append_left _ hk,h1,h2⟩
  ·intro zq66
   refine o1_3 zq66 fun k hk h1 h2=>?_
   rcases List.mem_append.mp hk with hk | hk
   ·exact ⟨k,hk,h1,h2⟩
   ·rw [List.mem_singleton.mp hk] at h1
    exact absurd (nodup_at nd ha h1) e
theorem str_of {x y:Str} (h:x.cps.toList = y.cps.toList):x = y:=by
 cases x; cases y
 exact congrArg Str.mk (Array.toList_inj.mp h)
theorem leS_anti {x y:Str} (h1:leS x y) (h2:leS y x):x = y:=str_of (List.le_antisymm (as:=x.cps.toList) (bs:=y.cps.toList) h1 h2)
theorem sorted_one {a b:List Str} (h1:a.Pairwise leS) (h2:b.Pairwise leS) (h:a.Perm b):a = b:=List.Perm.eq_of_pairwise (fun _ _ _ _=>leS_anti) h1 h2 h
noncomputable def leK (k l:Str × Str):Prop:=leP (0,k) (0,l)
theorem leK_anti {k l:Str × Str} (h1:leK k l) (h2:leK l k):k = l:=by
 have h1:¬ TS.pairLt (pkey (0,l)) (pkey (0,k)) = true:=fun z=>by rw [show TS.pairLt (pkey (0,l)) (pkey (0,k)) = false from h1] at z; cases z
 have h2:¬ TS.pairLt (pkey (0,k)) (pkey (0,l)) = true:=fun z=>by rw [show TS.pairLt (pkey (0,k)) (pkey (0,l)) = false from h2] at z; cases z
 rw [TS.pairLt_iff] at h1 h2
 have e1:k.1.cps.toList = l.1.cps.toList:=List.le_antisymm (as:=k.1.cps.toList) (bs:=l.1.cps.toList) (fun z=>h1 (.inl z)) (fun z=>h2 (.inl z))
 have e2:k.2.cps.toList = l.2.cps.toList:=List.le_antisymm (as:=k.2.cps.toList) (bs:=l.2.cps.toList) (fun z=>h1 (.inr ⟨e1.symm,z⟩)) (fun z=>h2 (.inr ⟨e1,z⟩))
 exact Prod.ext (str_of e1) (str_of e2)
theorem sortedP_one {a b:List PA2} (h1:a.Pairwise leP) (h2:b.Pairwise leP) (h:a.Perm b):(a.map fun q=>q.2) = b.map fun q=>q.2 :=
 List.Perm.eq_of_pairwise (le:=leK) (fun _ _ _ _=>leK_anti) (List.pairwise_map.mpr h1) (List.pairwise_map.mpr h2) (h.map _)
end Sw
namespace Sw
open PySem L2
structure ViewAt (H:Hp) (p v:Addr) (ns:List Str) (ks:List (Str × Str)) (A B:List Nat):Prop where
 ex:∃ a s t,H v = some (.lst [.ref a,.ref s,.ref t])/\H a = some (.lst (ns.map V.str))/\H s = some (.lst (A.map natV))/\H t = some (.lst (B.map natV))/\v ≠ p/\a ≠ p/\s ≠ p/\t ≠ p
 mA:MB ns (ks.map fun k=>(k.2,k.1)) A
 mB:MB ns ks B
theorem ViewAt.sm {H H':Hp} {p v:Addr} {ns:List Str} {ks:List (Str × Str)} {A B:List Nat} (h:ViewAt H p v ns ks A B) (s:Sm [p] H H'):ViewAt H' p v ns ks A B:=by
 obtain ⟨zq67,h1,h2⟩:=h
 refine o3_8 zq67 fun a b c e1 e2 e3 e4 n1 n2 n3 n4=>?_
 exact ⟨⟨a,b,c,Sm1 s e1 n1,Sm1 s e2 n2,Sm1 s e3 n3,Sm1 s e4 n4,n1,n2,n3,n4⟩,h1,h2⟩
theorem ViewAt.same {H H':Hp} {p v:Addr} {ns:List Str} {ks:List (Str × Str)} {A B:List Nat} (h:ViewAt H p v ns ks A B) (s:Same H H'):ViewAt H' p v ns ks A B:=h.sm s.sm
theorem ixN_nat {n j:Nat} (h:j < n):ixN n (j:Int) = some j:=by
 unfold ixN
 rw [if_pos (by lia),if_pos (by lia),Int.toNat_natCast]
theorem at_natV {B:List Nat} {a:Nat} (h:a < B.length):atI (B.map natV) (a:Int) = some (.int ((B.getD a 0:Nat):Int)):=by
 refine atI_nat ?_
 rw [List.getElem?_map,List.getElem?_eq_getElem h,List.getD_eq_getElem?_getD,List.getElem?_eq_getElem h]
 rfl
theorem rep_natV (n:Nat):(List.replicate ((n:Int).toNat) [V.int 0]).flatten = (List.replicate n 0).map natV:=by
 rw [Int.toNat_natCast]
 induction n with
 | zero=>rfl
 | succ n ih =>
  rw [List.replicate_succ,List.flatten_cons,ih,List.replicate_succ,List.map_cons]
  rfl
theorem set_natV (B:List Nat) (a m:Nat):(B.map natV).set a (.int (m:Int)) = (B.set a m).map natV:=by
 rw [List.map_set]
 rfl
section
variable {P:Program} {w:World} {K:PySem.W.Frag} {mg:Str->Option Value} {base:Heap}
theorem sc_law_masks:FnScope ["_law_names_here", "_law_strikes_here", "_law_strikers", "_law_struck", "_law_one", "_law_other", "_law_a", "_law_b"] ["_law_names_here", "_law_strikes_here"] (defScope s_law_masks):=⟨rfl,rfl,rfl,by decide +kernel,rfl,by decide +kernel,by decide +kernel⟩
noncomputable def sp_masks:Sp:=fun vs H Q _=>∃ (n a:Addr) (ss:List Str) (ps:List PA2),vs = [.ref n,.ref a]/\H n = some (.lst (ss.map V.str))/\NamesOk ss/\H a = some (.lst (refs ps))/\(∀ q ∈ ps,PairIn H q)/\StrkOk ss ps /\
 ∀ v ns A B H',H v = none->Same H H'->ns.Perm ss->ns.Pairwise leS->(∀ p o,H p = some o->ViewAt H' p v ns (ps.map fun q=>q.2) A B)->Q (.ref v) H'
set_option maxHeartbeats 2000000 in
theorem ok_law_masks (T:Tx K mg):FnOk P w K mg base CX0 1 T.law_masks.f T.law_masks.fd ["_law_names_here", "_law_strikes_here"] sp_masks:=by
 have sc:=sc_law_masks
 refine T.law_masks.F.ok sc_law_masks (fun vs H Q E h=>?_) (fun cdv A outer s H vs Q E hr h=>?_)
 ·refine o4_2 h fun n a ss ps zq68 _=>?_
  try clear h
  subst zq68
  rfl
 ·refine o4_7 h fun n a ss ps zq69 hn hN ha hP hO q=>?_
  try clear h
  subst zq69
  refine ⟨_,(pss_cons (ps_set (i:=0) sc.nd rfl (by first | exact Or.inl rfl | exact Or.inr rfl) (pe_bf (cl_sortS K) T.b_sorted bt_sorted (pa_cons (pv 0) pa_nil)))
   (pss_cons (ps_par (i:=2) (j:=3) rfl sc.nd rfl rfl (by decide) rfl rfl (pa_cons (pe_op op_rep (pe_lst (pa_cons pe_int pa_nil)) (pe_bf (cl_len K) T.b_len bt_len (pa_cons (pv 0) pa_nil))) (pa_cons (pe_op op_rep (pe_lst (pa_cons pe_int pa_nil)) (pe_bf (cl_len K) T.b_len bt_len (pa_cons (pv 0) pa_nil))) pa_nil)) rfl)
   (pss_cons (ps_for PassesOwn.never rfl (piL K (pv 1)) (pgT K (n:=2) (pgs_cons (pg_name (i:=4) sc.nd rfl (by first | exact Or.inl rfl | exact Or.inr rfl)) (pgs_cons (pg_name (i:=5) sc.nd rfl (by first | exact Or.inl rfl | exact Or.inr rfl)) pgs_nil)))
   (pss_cons (ps_par (i:=6) (j:=7) rfl sc.nd rfl rfl (by decide) rfl rfl (pa_cons (peBM K PySem.F.plainAttrs_list PySem.F.slot_list_index PySem.F.type_list_index (m_indexS K) (pv 0) (pa_cons (pv 4) pa_nil)) (pa_cons (peBM K PySem.F.plainAttrs_list PySem.F.slot_list_index PySem.F.type_list_index (m_indexS K) (pv 0) (pa_cons (pv 5) pa_nil)) pa_nil)) rfl)
   (pss_cons (ps_asg (pe_op op_or (pe_ix (ixL K) (pv 2) (pv 7) (fun _ _=>rfl)) (pe_op op_shl pe_int (pv 6))) (pg_sub (pv 2) (pv 7) set_list))
   (pss_one (ps_asg (pe_op op_or (pe_ix (ixL K) (pv 3) (pv 6) (fun _ _=>rfl)) (pe_op op_shl pe_int (pv 7))) (pg_sub (pv 3) (pv 6) set_list))))))
   (pss_one (ps_ret (pe_lst (pa_cons (pv 0) (pa_cons (pv 2) (pa_cons (pv 3) pa_nil))))))))),?_⟩
  refine ex1 rfl ⟨n,ss,rfl,SqL.of hn,fun l ns hl pm srt=>?_⟩
  have nd:ns.Nodup:=pm.nodup_iff.mpr hN.2.1
  have lm:(ns.map V.str).length = ns.length:=List.length_map ..
  have ln:ns.length<=100:=by rw [pm.length_eq]; exact hN.2.2
  have s1:Same H (upd H l (.lst (ns.map V.str))):=Same.new hl
  refine ⟨by show 1<=sizeLine; decide,fun t1 ht1=>?_⟩
  have s2:=s1.trans (Same.new (o:=.lst [V.int 0]) ht1)
  refine ex1 rfl (ex2_3 (a:=l) rfl (.inl (SqL.of ((Same.new ht1) _ _ upd_same))) ⟨t1,ex2_3 rfl rfl ⟨upd_same,by lia,by lia,by rw [lm,Int.toNat_natCast,sizeLine_eq]; show 1 * ns.length<=_; lia,fun s hs=>?_⟩⟩)
  rw [lm,rep_natV]
  have hs1:upd H l (.lst (ns.map V.str)) s = none:=(Same.new ht1).free hs
  have hs0:H s = none:=s2.free hs
  have nls:l ≠ s:=ne_of_none upd_same hs1
  have s3:=s2.trans (Same.new (o:=.lst ((List.replicate ns.length 0).map natV)) hs)
  refine ⟨by show 1<=sizeLine; decide,fun t2 ht2=>?_⟩
  have s4:=s3.trans (Same.new (o:=.lst [V.int 0]) ht2)
  have el:(upd (upd (upd (upd H l (.lst (ns.map V.str))) t1 (.lst [V.int 0])) s (.lst ((List.replicate ns.length 0).map natV))) t2 (.lst [V.int 0])) l = some (.lst (ns.map V.str)) :=
   (Same.new ht2) _ _ ((Same.new hs) _ _ ((Same.new ht1) _ _ upd_same))
  have es:(upd (upd (upd (upd H l (.lst (ns.map V.str))) t1 (.lst [V.int 0])) s (.lst ((List.replicate ns.length 0).map natV))) t2 (.lst [V.int 0])) s = some (.lst ((List.replicate ns.length 0).map natV)):=(Same.new ht2) _ _ upd_same
  generalize hG:upd (upd (upd (upd H l (.lst (ns.map V.str))) t1 (.lst [V.int 0])) s (.lst ((List.replicate ns.length 0).map natV))) t2 (.lst [V.int 0]) = H4 at s4 el es ⊢
  have et2:H4 t2 = some (.lst [V.int 0]):=by rw [<-hG]; exact upd_same
  refine ex1 rfl (ex2_3 (a:=l) rfl (.inl (SqL.of el)) ⟨t2,ex2_3 rfl rfl ⟨et2,by lia,by lia,by rw [lm,Int.toNat_natCast,sizeLine_eq]; show 1 * ns.length<=_; lia,fun t ht=>?_⟩⟩)
  rw [lm,rep_natV]
  have nlt:l ≠ t:=ne_of_none el ht
  have nst:s ≠ t:=ne_of_none es ht
  have s5:=s4.trans (Same.new (o:=.lst ((List.replicate ns.length 0).map natV)) ht)
  have ht0:H t = none:=s4.free ht
  refine ⟨_,ex1 rfl (ex1 rfl ⟨a,rfl,⟨_,SqL.of (s5 _ _ ha)⟩,?_⟩)⟩
  refine for_asG (asL (K:=K) (SqL.of ha)) (fun i σ H1=>(∃ v4 v5 v6 v7,σ = [some (.ref l),some (.ref a),some (.ref s),some (.ref t),v4,v5,v6,v7])/\Same H H1/\H1 l = some (.lst (ns.map V.str)) /\
   ∃ A B:List Nat,H1 s = some (.lst (A.map natV))/\H1 t = some (.lst (B.map natV))/\MB ns ((ps.take i).map fun q=>(q.2.2,q.2.1)) A/\MB ns ((ps.take i).map fun q=>q.2) B) ?_ ?_ ?_ ?_
  ·exact ⟨⟨_,_,_,_,rfl⟩,s5,by rw [upd_ne nlt]; exact el,_,_,by rw [upd_ne nst]; exact es,upd_same,MB.zero ns,MB.zero ns⟩
  ·intro i σ H1 hi zq70
   refine o0_3 zq70 fun _ h1 _=>?_
   exact h1.at a
  ·intro i σ H1 v hv zq71 D1 hD1 _
   obtain ⟨zq72,h1,h2,A,B,h3,h4,h5,h6⟩:=zq71
   refine o4_1 zq72 fun v4 v5 v6 v7 zq73=>?_
   subst zq73
   unfold refs at hv
   rw [List.getElem?_map] at hv
   cases hq:ps[i]? with
   | none=>rw [hq] at hv; cases hv
   | some q =>
    rw [hq] at hv
    cases hv
    have hm:q ∈ ps:=List.mem_of_getElem? hq
    refine o0_2 (hO.nm q hm) fun m1 m2=>?_
    have m1:q.2.1 ∈ ns:=pm.mem_iff.mpr m1
    have m2:q.2.2 ∈ ns:=pm.mem_iff.mpr m2
    obtain ⟨j,hj⟩:=List.mem_iff_getElem?.mp m1
    obtain ⟨k,hk⟩:=List.mem_iff_getElem?.mp m2
    have lj:j < ns.length:=(List.getElem?_eq_some_iff.mp hj).1
    have lk:k < ns.length:=(List.getElem?_eq_some_iff.mp hk).1
    refine ⟨q.1,ex1 rfl ⟨SqT.of (h1 _ _ (hP q hm)),rfl,_,ex1 rfl (ex2_3 rfl rfl ?_)⟩⟩
    refine ex1 rfl ⟨.inl ⟨rfl,_,SqL.of h2⟩,ex1 rfl ⟨l,ns,q.2.1,j,rfl,rfl,SqL.of h2,hj,fun m hm z=>by have:=nodup_at nd z hj; lia,?_⟩⟩
    refine ex1 rfl ⟨.inl ⟨rfl,_,SqL.of h2⟩,ex1 rfl ⟨l,ns,q.2.2,k,rfl,rfl,SqL.of h2,hk,fun m hm z=>by have:=nodup_at nd z hk; lia,?_⟩⟩
    refine ⟨_,ex1 rfl ?_⟩
    refine ex1 rfl (ex1 rfl ⟨s,_,ex2_3 rfl rfl ⟨SqL.of h3,at_natV (by rw [h5.len]; exact lk),ex1 rfl (ex2_3 rfl rfl ⟨⟨by lia,by lia,by decide⟩,ex2_3 rfl rfl ?_⟩)⟩⟩)
    dsimp only
    rw [shl1,bor]
    refine ex1 rfl (ex1 rfl ⟨s,_,_,k,rfl,rfl,h3,ixN_nat (by rw [List.length_map,h5.len]; exact lk),?_⟩)
    rw [set_natV]
    refine ex1 rfl (ex1 rfl ⟨t,_,ex2_3 rfl rfl ⟨SqL.of (by rw [upd_ne nst.symm]; exact h4),at_natV (by rw [h6.len]; exact lj),ex1 rfl (ex2_3 rfl rfl ⟨⟨by lia,by lia,by decide⟩,ex2_3 rfl rfl ?_⟩)⟩⟩)
    dsimp only
    rw [shl1,bor]
    refine ex1 rfl (ex1 rfl ⟨t,_,_,j,rfl,rfl,by rw [upd_ne nst.symm]; exact h4,ixN_nat (by rw [List.length_map,h6.len]; exact lj),?_⟩)
    rw [set_natV]
    refine hD1 _ _ ⟨⟨_,_,_,_,rfl⟩,(h1.upd hs0).upd ht0,?_,A.set k (A.getD k 0 ||| 2 ^ j),_,?_,upd_same,?_,?_⟩
    ·rw [upd_ne nlt,upd_ne nls]; exact h2
    ·rw [upd_ne nst,upd_same]
    ·rw [take_succ hq,List.map_append]
     exact h5.step nd hk hj
    ·rw [take_succ hq,List.map_append]
     exact h6.step nd hj hk
  ·intro σ H1 zq74
   obtain ⟨zq75,h1,h2,A,B,h3,h4,h5,h6⟩:=zq74
   refine o4_1 zq75 fun v4 v5 v6 v7 zq76=>?_
   subst zq76
   have lr:(refs ps).length = ps.length:=by unfold refs; rw [List.length_map]
   rw [lr,List.take_length] at h5 h6
   refine ex1 rfl (ex1 rfl (ex1 rfl ⟨by show 3<=sizeLine; decide,fun v hv=>?_⟩))
   have s9:=Same.new (o:=.lst [.ref l,.ref s,.ref t]) hv
   refine q v ns A B _ (h1.free hv) (h1.trans s9) pm srt fun p o hp=>⟨⟨l,s,t,upd_same,s9 _ _ h2,s9 _ _ h3,s9 _ _ h4,(ne_of_none (h1 _ _ hp) hv).symm,(ne_of_none hp hl).symm,(ne_of_none hp hs0).symm,(ne_of_none hp ht0).symm⟩,?_,h6⟩
   rw [List.map_map]
   exact h5
end
end Sw
namespace Sw
open PySem L2
noncomputable def setTo (ns:List Str) (m i:Nat):List Str:=(List.range i).filterMap fun k=>if m.testBit k = true then ns[k]? else none
noncomputable def setOf (ns:List Str) (m:Nat):List Str:=setTo ns m ns.length
theorem setTo_succ {ns:List Str} {m i:Nat} {x:Str} (h:ns[i]? = some x):setTo ns m (i + 1) = setTo ns m i ++ if m.testBit i = true then [x] else []:=by
 unfold setTo
 rw [List.range_succ,List.filterMap_append]
 congr 1
 by_cases e:m.testBit i = true
 ·rw [if_pos e]; simp [e,h]
 ·rw [if_neg e]; simp [e]
theorem mem_setOf {ns:List Str} {m:Nat} {x:Str}:x ∈ setOf ns m ↔ ∃ k,m.testBit k = true/\ns[k]? = some x:=by
 unfold setOf setTo
 rw [List.mem_filterMap]
 constructor
 ·intro zq77
  refine o1_2 zq77 fun k hk e=>?_
  by_cases h:m.testBit k = true
  ·rw [if_pos h] at e; exact ⟨k,h,e⟩
  ·rw [if_neg h] at e; cases e
 ·intro zq78
  refine o1_2 zq78 fun k h e=>?_
  exact ⟨k,List.mem_range.mpr (List.getElem?_eq_some_iff.mp e).1,by rw [if_pos h]; exact e⟩
theorem setTo_sub (ns:List Str) (m:Nat):∀ i,i<=ns.length->(setTo ns m i).Sublist (ns.take i)
 | 0,_=>by simp [setTo]
 | i + 1,h=>by
  have hi:ns[i]? = some ns[i]:=List.getElem?_eq_getElem (by lia)
  rw [setTo_succ hi,take_succ hi]
  refine (setTo_sub ns m i (by lia)).append ?_
  by_cases e:m.testBit i = true
  ·rw [if_pos e]; exact List.Sublist.refl _
  ·rw [if_neg e]; exact List.nil_sublist _
theorem setOf_sub (ns:List Str) (m:Nat):(setOf ns m).Sublist ns:=by
 have:=setTo_sub ns m ns.length (Nat.le_refl _)
 rwa [List.take_length] at this
section
variable {P:Program} {w:World} {K:PySem.W.Frag} {mg:Str->Option Value} {base:Heap}
theorem sc_law_set_of:FnScope ["_law_view", "_law_mask"] ["_law_view", "_law_mask"] (defScope s_law_set_of):=⟨rfl,rfl,rfl,by decide +kernel,rfl,by decide +kernel,by decide +kernel⟩
noncomputable def sp_set_of:Sp:=fun vs H Q _=>∃ (p v:Addr) (m:Nat) (ns:List Str) (ks:List (Str × Str)) (A B:List Nat),vs = [.ref v,.int (m:Int)]/\ViewAt H p v ns ks A B/\ns.length<=100 /\
 ∀ l H',H l = none->Same H H'->H' l = some (.lst ((setOf ns m).map V.str))->Q (.ref l) H'
theorem ok_law_set_of (T:Tx K mg):FnOk P w K mg base CX0 1 T.law_set_of.f T.law_set_of.fd ["_law_view", "_law_mask"] sp_set_of:=by
 have sc:=sc_law_set_of
 refine T.law_set_of.F.ok sc_law_set_of (fun vs H Q E h=>?_) (fun cdv A outer s H vs Q E hr h=>?_)
 ·refine o7_2 h fun p n a ss ps A B zq79 _=>?_
  try clear h
  subst zq79
  rfl
 ·refine o7_4 h fun p v m ns ks A B zq80 hV ln q=>?_
  try clear h
  subst zq80
  obtain ⟨zq81,mA,mB⟩:=(id hV)
  refine o3_5 zq81 fun a s t e1 e2 e3 e4 _=>?_
  refine ⟨_,(pss_one (ps_ret (pe_lc (N':=["_law_k", "_law_name", "_law_mask"]) (cap:=[none,none,some 1]) (cl:=[("_law_mask",_)]) (cs_mk ⟨⟨rfl,rfl,rfl,rfl⟩,trivial⟩ ⟨rfl,trivial⟩) rfl (piE K T.b_enumerate (pa_cons (pe_ix (ixL K) (pv 0) pe_int (fun _ _=>rfl)) pa_nil)) (fun _ _ _ _=>by exact ⟨(pgT K (n:=2) (pgs_cons (pgC 0) (pgs_cons (pgC 1) pgs_nil))),(pts_one (pt_cmpR op_eq (pe_op op_and (pe_op op_shr (pv 2) (pv 0)) pe_int) pe_int (nomark _))),(pv 1)⟩)))),?_⟩
  dsimp only [tSeq,tAsg,gName,tRet,tCB,tCons,tNil]
  refine ex1 rfl ⟨v,_,ex2_3 rfl rfl ⟨SqL.of e1,rfl,a,ex1 rfl ⟨SqL.of e2,fun D hD=>?_⟩⟩⟩
  refine loop_J (n:=ns.length) (fun i σ H1=>(∃ v0 v1,σ = [v0,v1,some (.int (m:Int))])/\Same H H1/\H1 D = some (.lst ((setTo ns m i).map V.str))) ⟨⟨_,_,rfl⟩,Same.new hD,upd_same⟩ ?_ ?_ ?_ ?_
  ·intro i σ H1 hi zq82
   refine o0_3 zq82 fun _ s1 e5=>?_
   exact ⟨_,_,(s1.at a).seqL (SqL.of e2),by rw [List.getElem?_map,List.getElem?_eq_getElem hi]; rfl⟩
  ·intro σ H1 zq83
   refine o0_3 zq83 fun _ s1 e5=>?_
   exact ⟨_,(s1.at a).seqL (SqL.of e2),by rw [List.length_map]⟩
  ·intro i σ H1 x H' N hi zq84 zq85 hN
   refine o0_3 zq84 fun zq86 s1 e5=>?_
   refine o2_1 zq86 fun v0 v1 zq87=>?_
   subst zq87
   refine o2_4 zq85 fun t x zq88 ht zq89 hx=>?_
   subst zq88
   subst zq89
   have hx:=hx _ ((s1.at a).seqL (SqL.of e2))
   have hi':ns[i]? = some ns[i]:=List.getElem?_eq_getElem hi
   rw [List.getElem?_map,hi'] at hx
   cases hx
   refine ⟨t,ex1 rfl ⟨SqT.of upd_same,rfl,_,ex1 rfl (ex2_3 rfl rfl ?_)⟩⟩
   have nDt:D ≠ t:=ne_of_none e5 ht
   have s2:Same H (upd H1 t (.tup [.int i,.str ns[i]])):=s1.trans (Same.new ht)
   refine ex1 rfl (ex1 rfl (ex2_3 rfl rfl ⟨(show (0:Int)<=(i:Int) by lia),ex2_3 rfl rfl ⟨rfl,ex1 rfl ?_⟩⟩))
   dsimp only
   rw [bit_at]
   have hle:=(setTo_sub ns m i (by lia)).length_le
   rw [List.length_take] at hle
   refine ite2 (fun hb=>?_) (fun hb=>?_)
   ·refine ex1 rfl ⟨_,by rw [upd_ne nDt]; exact e5,by rw [List.length_map,sizeLine_eq]; lia,hN _ _ ⟨⟨_,_,rfl⟩,s2.upd hD,?_⟩⟩
    rw [upd_same,setTo_succ hi',if_pos hb,List.map_append]; rfl
   ·refine hN _ _ ⟨⟨_,_,rfl⟩,s2,?_⟩
    rw [upd_ne nDt,setTo_succ hi',if_neg hb,List.append_nil]; exact e5
  ·intro σ H1 zq90
   refine o0_3 zq90 fun _ s1 e5=>?_
   exact q D H1 hD s1 e5
end
end Sw
namespace Sw
open PySem L2
noncomputable def HitB (B:List Nat) (m j:Nat):Prop:=∃ k,m.testBit k = true/\(B.getD k 0).testBit j = true
noncomputable def KeptB (n:Nat) (A B:List Nat) (m j:Nat):Prop:=j < n/\∀ b,(A.getD j 0).testBit b = true->HitB B m b
noncomputable def QuietB (B:List Nat) (m:Nat):Prop:=∀ i j,m.testBit i = true->m.testBit j = true->¬ (B.getD i 0).testBit j = true
theorem and_not_zero (a h:Nat):decide (V.int (Builtin.bitAnd (a:Int) (Builtin.bitNot (h:Int))) = V.int 0) = true ↔ ∀ b,a.testBit b = true->h.testBit b = true:=by
 rw [decide_eq_true_iff,PyProof.Rows.bitAnd_not,band]
 constructor
 ·intro e b hb
  injection e with e
  have e:a = a &&& h:=by lia
  rw [e,Nat.testBit_and,Bool.and_eq_true] at hb
  exact hb.2
 ·intro k
  have e:a &&& h = a:=Nat.eq_of_testBit_eq fun b=>by
   rw [Nat.testBit_and]
   cases hb:a.testBit b with
   | false=>rfl
   | true=>rw [k b hb]; rfl
  rw [e,Int.sub_self]
theorem and_zero (a m:Nat):decide (V.int (Builtin.bitAnd (a:Int) (m:Int)) = V.int 0) = true ↔ ∀ b,a.testBit b = true->¬ m.testBit b = true:=by
 rw [decide_eq_true_iff,band]
 constructor
 ·intro e b hb hm
  injection e with e
  have e:a &&& m = 0:=by lia
  have:(a &&& m).testBit b = true:=by rw [Nat.testBit_and,hb,hm]; rfl
  rw [e,Nat.zero_testBit] at this
  cases this
 ·intro k
  have e:a &&& m = 0:=Nat.eq_of_testBit_eq fun b=>by
   rw [Nat.testBit_and,Nat.zero_testBit]
   cases hb:a.testBit b with
   | false=>rfl
   | true =>
    have:=k b hb
    cases hm:m.testBit b with
    | false=>rfl
    | true=>exact absurd hm this
  rw [e]
  rfl
theorem bit_or2 (d k j:Nat):(d ||| 2 ^ k).testBit j = true ↔ d.testBit j = true\/j = k:=by
 rw [Nat.testBit_or,Bool.or_eq_true,Nat.testBit_two_pow,decide_eq_true_iff]
 exact ⟨fun h=>h.imp id Eq.symm,fun h=>h.imp id Eq.symm⟩
section
variable {P:Program} {w:World} {K:PySem.W.Frag} {mg:Str->Option Value} {base:Heap}
theorem sc_law_hit:FnScope ["_law_view", "_law_mask", "_law_hit_here", "_law_k"] ["_law_view", "_law_mask"] (defScope s_law_hit):=⟨rfl,rfl,rfl,by decide +kernel,rfl,by decide +kernel,by decide +kernel⟩
noncomputable def sp_hit:Sp:=fun vs H Q _=>∃ (p v:Addr) (m:Nat) (ns:List Str) (ks:List (Str × Str)) (A B:List Nat),vs = [.ref v,.int (m:Int)]/\ViewAt H p v ns ks A B/\ns.length<=100 /\
 ∀ h:Nat,(∀ j,h.testBit j = true ↔ HitB B m j)->Q (.int (h:Int)) H
theorem ok_law_hit (T:Tx K mg):FnOk P w K mg base CX0 1 T.law_hit.f T.law_hit.fd ["_law_view", "_law_mask"] sp_hit:=by
 have sc:=sc_law_hit
 refine T.law_hit.F.ok sc_law_hit (fun vs H Q E h=>?_) (fun cdv A outer s H vs Q E hr h=>?_)
 ·refine o7_2 h fun p n a ss ps A B zq91 _=>?_
  try clear h
  subst zq91
  rfl
 ·refine o7_4 h fun p v m ns ks A B zq92 hV ln q=>?_
  try clear h
  subst zq92
  obtain ⟨zq93,mA,mB⟩:=(id hV)
  refine o3_5 zq93 fun a s t e1 e2 e3 e4 _=>?_
  refine ⟨_,(pss_cons (ps_set (i:=2) sc.nd rfl (by first | exact Or.inl rfl | exact Or.inr rfl) pe_int)
   (pss_cons (ps_for PassesOwn.never rfl (piR1 T.b_range (pa_cons (pe_bf (cl_len K) T.b_len bt_len (pa_cons (pe_ix (ixL K) (pv 0) pe_int (fun _ _=>rfl)) pa_nil)) pa_nil)) (pg_name (i:=3) sc.nd rfl (by first | exact Or.inl rfl | exact Or.inr rfl))
   (pss_one (ps_if (pt_cmpR op_eq (pe_op op_and (pe_op op_shr (pv 1) (pv 3)) pe_int) pe_int (nomark _)) (pss_one (ps_set (i:=2) sc.nd rfl (by first | exact Or.inl rfl | exact Or.inr rfl) (pe_op op_or (pv 2) (pe_ix (ixL K) (pe_ix (ixL K) (pv 0) pe_int (fun _ _=>rfl)) (pv 3) (fun _ _=>rfl))))) pss_nil)))
   (pss_one (ps_ret (pv 2))))),?_⟩
  refine ex1 rfl ⟨v,_,ex2_3 rfl rfl ⟨SqL.of e1,rfl,ex2_3 (a:=a) rfl (.inl (SqL.of e2)) (ex1 rfl ⟨?_,?_,?_⟩)⟩⟩
  ·lia
  ·rw [List.length_map]; lia
  rw [List.length_map,Int.toNat_natCast]
  refine for_rangeG (fun i σ H1=>H1 = H/\∃ (h:Nat) (v3:Option V),σ = [some (.ref v),some (.int (m:Int)),some (.int (h:Int)),v3]/\∀ j,h.testBit j = true ↔ ∃ k,k < i/\m.testBit k = true/\(B.getD k 0).testBit j = true) ?_ ?_ ?_
  ·exact ⟨rfl,0,_,rfl,fun j=>by rw [Nat.zero_testBit]; simp⟩
  ·intro i σ H1 hi zq94 D1 hD1 _
   obtain ⟨zq95,h,v3,zq96,hh⟩:=zq94
   subst zq95
   subst zq96
   rw [Int.zero_add]
   refine ex1 rfl (ex1 rfl (ex2_3 rfl rfl ⟨(show (0:Int)<=(i:Int) by lia),ex2_3 rfl rfl ⟨rfl,ex1 rfl ?_⟩⟩))
   dsimp only
   rw [bit_at]
   refine ite2 (fun hb=>?_) (fun hb=>?_)
   ·refine ex1 rfl (ex1 rfl ⟨v,_,ex2_3 rfl rfl ⟨SqL.of e1,rfl,ex1 rfl ⟨t,_,ex2_3 rfl rfl ⟨SqL.of e4,at_natV (by rw [mB.len]; exact hi),ex2_3 rfl rfl ?_⟩⟩⟩⟩)
    dsimp only
    rw [bor]
    refine hD1 _ _ ⟨rfl,_,_,rfl,fun j=>?_⟩
    rw [Nat.testBit_or,Bool.or_eq_true,hh]
    constructor
    ·rintro (⟨k,h1,h2⟩ | h2)
     ·exact ⟨k,by lia,h2⟩
     ·exact ⟨i,by lia,hb,h2⟩
    ·intro zq97
     refine o1_2 zq97 fun k h1 h2=>?_
     by_cases e:k = i
     ·rw [e] at h2; exact .inr h2.2
     ·exact .inl ⟨k,by lia,h2⟩
   ·refine hD1 _ _ ⟨rfl,h,_,rfl,fun j=>?_⟩
    rw [hh]
    constructor
    ·intro zq98
     refine o1_2 zq98 fun k h1 h2=>?_
     exact ⟨k,by lia,h2⟩
    ·intro zq99
     refine o1_2 zq99 fun k h1 h2=>?_
     by_cases e:k = i
     ·rw [e] at h2; exact absurd h2.1 hb
     ·exact ⟨k,by lia,h2⟩
  ·intro σ H1 zq100
   obtain ⟨zq101,h,v3,zq102,hh⟩:=zq100
   subst zq101
   subst zq102
   refine ex1 rfl (q h fun j=>?_)
   rw [hh]
   constructor
   ·intro zq103
    refine o1_2 zq103 fun k h1 h2=>?_
    exact ⟨k,h2⟩
   ·intro zq104
    refine o1_2 zq104 fun k h1 h2=>?_
    refine ⟨k,?_,h1,h2⟩
    refine o1_3 ((mB.bit k j).mp h2) fun z _ hz _=>?_
    exact (List.getElem?_eq_some_iff.mp hz).1
theorem sc_law_kept:FnScope ["_law_view", "_law_mask", "_law_hit_here", "_law_kept_here", "_law_k"] ["_law_view", "_law_mask"] (defScope s_law_kept):=⟨rfl,rfl,rfl,by decide +kernel,rfl,by decide +kernel,by decide +kernel⟩
noncomputable def sp_kept:Sp:=fun vs H Q _=>∃ (p v:Addr) (m:Nat) (ns:List Str) (ks:List (Str × Str)) (A B:List Nat),vs = [.ref v,.int (m:Int)]/\ViewAt H p v ns ks A B/\ns.length<=100 /\
 ∀ h:Nat,(∀ j,h.testBit j = true ↔ KeptB ns.length A B m j)->Q (.int (h:Int)) H
theorem ok_law_kept (T:Tx K mg):FnOk P w K mg base CX0 2 T.law_kept.f T.law_kept.fd ["_law_view", "_law_mask"] sp_kept:=by
 have G_law_hit:FnOk P w K mg base CX0 1 T.law_hit.f T.law_hit.fd ["_law_view", "_law_mask"] sp_hit:=ok_law_hit T
 have sc:=sc_law_kept
 refine T.law_kept.F.ok sc_law_kept (fun vs H Q E h=>?_) (fun cdv A outer s H vs Q E hr h=>?_)
 ·refine o7_2 h fun p n a ss ps A B zq105 _=>?_
  try clear h
  subst zq105
  rfl
 ·refine o7_4 h fun p v m ns ks A B zq106 hV ln q=>?_
  try clear h
  subst zq106
  obtain ⟨zq107,mA,mB⟩:=(id hV)
  refine o3_5 zq107 fun a s t e1 e2 e3 e4 _=>?_
  refine ⟨_,(pss_cons (ps_set (i:=2) sc.nd rfl (by first | exact Or.inl rfl | exact Or.inr rfl) (pe_fn T.law_hit G_law_hit (hr.mono (by decide)) (pa_cons (pv 0) (pa_cons (pv 1) pa_nil))))
   (pss_cons (ps_set (i:=3) sc.nd rfl (by first | exact Or.inl rfl | exact Or.inr rfl) pe_int)
   (pss_cons (ps_for PassesOwn.never rfl (piR1 T.b_range (pa_cons (pe_bf (cl_len K) T.b_len bt_len (pa_cons (pe_ix (ixL K) (pv 0) pe_int (fun _ _=>rfl)) pa_nil)) pa_nil)) (pg_name (i:=4) sc.nd rfl (by first | exact Or.inl rfl | exact Or.inr rfl))
   (pss_one (ps_if (pt_cmpR op_eq (pe_op op_and (pe_ix (ixL K) (pe_ix (ixL K) (pv 0) pe_int (fun _ _=>rfl)) (pv 4) (fun _ _=>rfl)) (pe_un un_inv (pv 2))) pe_int (nomark _)) (pss_one (ps_set (i:=3) sc.nd rfl (by first | exact Or.inl rfl | exact Or.inr rfl) (pe_op op_or (pv 3) (pe_op op_shl pe_int (pv 4))))) pss_nil)))
   (pss_one (ps_ret (pv 3)))))),?_⟩
  refine ex1 rfl (ex1 rfl (ex7_4 (a:=p) (b:=v) (c:=m) (d:=ns) (e:=ks) (f:=A) (g:=B) rfl hV ln fun hit hhit=>?_))
  refine ex1 rfl ⟨v,_,ex2_3 rfl rfl ⟨SqL.of e1,rfl,ex2_3 (a:=a) rfl (.inl (SqL.of e2)) (ex1 rfl ⟨?_,?_,?_⟩)⟩⟩
  ·lia
  ·rw [List.length_map]; lia
  rw [List.length_map,Int.toNat_natCast]
  refine for_rangeG (fun i σ H1=>H1 = H/\∃ (h:Nat) (v3:Option V),σ = [some (.ref v),some (.int (m:Int)),some (.int (hit:Int)),some (.int (h:Int)),v3]/\∀ j,h.testBit j = true ↔ KeptB i A B m j) ?_ ?_ ?_
  ·exact ⟨rfl,0,_,rfl,fun j=>by rw [Nat.zero_testBit]; exact ⟨fun z=>(by cases z),fun z=>absurd z.1 (Nat.not_lt_zero _)⟩⟩
  ·intro i σ H1 hi zq108 D1 hD1 _
   obtain ⟨zq109,h,v3,zq110,hh⟩:=zq108
   subst zq109
   subst zq110
   rw [Int.zero_add]
   refine ex1 rfl ⟨v,_,ex2_3 rfl rfl ⟨SqL.of e1,rfl,ex1 rfl ⟨s,_,ex2_3 rfl rfl ⟨SqL.of e3,at_natV (by rw [mA.len]; exact hi),ex1 rfl (ex1 rfl (ex2_3 rfl rfl ⟨rfl,ex1 rfl ?_⟩))⟩⟩⟩⟩
   dsimp only
   have ek:=and_not_zero (A.getD i 0) hit
   refine ite2 (fun hb=>?_) (fun hb=>?_)
   ·refine ex1 rfl (ex1 rfl (ex2_3 rfl rfl ⟨⟨by lia,by lia,by decide⟩,ex2_3 rfl rfl ?_⟩))
    dsimp only
    rw [shl1,bor]
    refine hD1 _ _ ⟨rfl,_,_,rfl,fun j=>?_⟩
    rw [bit_or2,hh]
    constructor
    ·rintro (⟨h1,h2⟩ | rfl)
     ·exact ⟨by lia,h2⟩
     ·exact ⟨by lia,fun b hb'=>(hhit b).mp (ek.mp hb b hb')⟩
    ·intro zq111
     refine o0_2 zq111 fun h1 h2=>?_
     by_cases e:j = i
     ·exact .inr e
     ·exact .inl ⟨by lia,h2⟩
   ·refine hD1 _ _ ⟨rfl,h,_,rfl,fun j=>?_⟩
    rw [hh]
    constructor
    ·intro zq112
     refine o0_2 zq112 fun h1 h2=>?_
     exact ⟨by lia,h2⟩
    ·intro zq113
     refine o0_2 zq113 fun h1 h2=>?_
     by_cases e:j = i
     ·subst e
      exact absurd (ek.mpr fun b hb'=>(hhit b).mpr (h2 b hb')) hb
     ·exact ⟨by lia,h2⟩
  ·intro σ H1 zq114
   obtain ⟨zq115,h,v3,zq116,hh⟩:=zq114
   subst zq115
   subst zq116
   exact ⟨_,rfl,q h hh⟩
theorem sc_law_is_quiet:FnScope ["_law_view", "_law_mask"] ["_law_view", "_law_mask"] (defScope s_law_is_quiet):=⟨rfl,rfl,rfl,by decide +kernel,rfl,by decide +kernel,by decide +kernel⟩
noncomputable def sp_lquiet:Sp:=fun vs H Q _=>∃ (p v:Addr) (m:Nat) (ns:List Str) (ks:List (Str × Str)) (A B:List Nat),vs = [.ref v,.int (m:Int)]/\ViewAt H p v ns ks A B/\ns.length<=100 /\
 ∀ b:Bool,(b = true ↔ QuietB B m)->Q (.bl b) H
theorem ok_law_is_quiet (T:Tx K mg):FnOk P w K mg base CX0 2 T.law_is_quiet.f T.law_is_quiet.fd ["_law_view", "_law_mask"] sp_lquiet:=by
 have G_law_hit:FnOk P w K mg base CX0 1 T.law_hit.f T.law_hit.fd ["_law_view", "_law_mask"] sp_hit:=ok_law_hit T
 have sc:=sc_law_is_quiet
 refine T.law_is_quiet.F.ok sc_law_is_quiet (fun vs H Q E h=>?_) (fun cdv A outer s H vs Q E hr h=>?_)
 ·refine o7_2 h fun p n a ss ps A B zq117 _=>?_
  try clear h
  subst zq117
  rfl
 ·refine o7_4 h fun p v m ns ks A B zq118 hV ln q=>?_
  try clear h
  subst zq118
  refine ⟨_,(pss_one (ps_ret (pe_cmpR op_eq (pe_op op_and (pe_fn T.law_hit G_law_hit (hr.mono (by decide)) (pa_cons (pv 0) (pa_cons (pv 1) pa_nil))) (pv 1)) pe_int (nomark _)))),?_⟩
  refine ex1 rfl (ex1 rfl (ex7_4 (a:=p) (b:=v) (c:=m) (d:=ns) (e:=ks) (f:=A) (g:=B) rfl hV ln fun hit hhit=>?_))
  refine ex1 rfl (ex2_3 rfl rfl ⟨rfl,?_⟩)
  refine q _ ?_
  dsimp only
  rw [and_zero]
  constructor
  ·intro h i j hi hj hb
   exact h j ((hhit j).mpr ⟨i,hi,hb⟩) hj
  ·intro h j hj hm
   refine o1_2 ((hhit j).mp hj) fun i hi hb=>?_
   exact h i j hi hm hb
end
end Sw
namespace Sw
open PySem L2
section
variable {P:Program} {w:World} {K:PySem.W.Frag} {mg:Str->Option Value} {base:Heap}
noncomputable def Low (n m:Nat):Prop:=∀ j,m.testBit j = true->j < n
theorem Low.or {n m k:Nat} (h:Low n m) (hk:k < n):Low n (m ||| 2 ^ k):=fun j hj=>((bit_or2 m k j).mp hj).elim (h j) fun e=>by lia
theorem Low.or' {n m k:Nat} (h:Low n m) (h':Low n k):Low n (m ||| k):=fun j hj=>by
 rw [Nat.testBit_or,Bool.or_eq_true] at hj
 exact hj.elim (h j) (h' j)
theorem Low.zero (n:Nat):Low n 0:=fun j hj=>by rw [Nat.zero_testBit] at hj; cases hj
theorem sc_law_some:FnScope ["_law_left_here", "_law_view", "_law_drawn_here", "_law_quiet", "_law_k"] ["_law_left_here", "_law_view"] (defScope s_law_some):=⟨rfl,rfl,rfl,by decide +kernel,rfl,by decide +kernel,by decide +kernel⟩
noncomputable def sp_some:Sp:=fun vs H Q _=>∃ (p v:Addr) (c:Int) (ns:List Str) (ks:List (Str × Str)) (A B:List Nat),vs = [.ref p,.ref v]/\LeftAt H p c/\c<=900000/\ViewAt H p v ns ks A B/\ns.length<=100 /\
 ∀ (m:Nat) H',Low ns.length m->Sm [p] H H'->LeftAt H' p (c + ns.length + 1)->Q (.int (m:Int)) H'
set_option maxHeartbeats 1000000 in
theorem ok_law_some (T:Tx K mg):FnOk P w K mg base CX0 3 T.law_some.f T.law_some.fd ["_law_left_here", "_law_view"] sp_some:=by
 have G_law_pick:FnOk P w K mg base CX0 2 T.law_pick.f T.law_pick.fd ["_law_left_here", "_law_many"] sp_pick:=ok_law_pick T
 have G_law_is_quiet:FnOk P w K mg base CX0 2 T.law_is_quiet.f T.law_is_quiet.fd ["_law_view", "_law_mask"] sp_lquiet:=ok_law_is_quiet T
 have G_law_kept:FnOk P w K mg base CX0 2 T.law_kept.f T.law_kept.fd ["_law_view", "_law_mask"] sp_kept:=ok_law_kept T
 have sc:=sc_law_some
 refine T.law_some.F.ok sc_law_some (fun vs H Q E h=>?_) (fun cdv A outer s H vs Q E hr h=>?_)
 ·refine o7_2 h fun p n a ss ps A B zq119 _=>?_
  try clear h
  subst zq119
  rfl
 ·refine o7_6 h fun p v c ns ks A B zq120 hL c1 hV ln q=>?_
  try clear h
  subst zq120
  refine o2_2 (id hL) fun _ _ e0 c0=>?_
  obtain ⟨zq121,mA,mB⟩:=(id hV)
  refine o3_5 zq121 fun a s u e1 e2 e3 e4 _=>?_
  refine ⟨_,(pss_cons (ps_asg (pe_tup (pa_cons pe_int (pa_cons pe_int pa_nil))) (pgT K (n:=2) (pgs_cons (pg_name (i:=2) sc.nd rfl (by first | exact Or.inl rfl | exact Or.inr rfl)) (pgs_cons (pg_name (i:=3) sc.nd rfl (by first | exact Or.inl rfl | exact Or.inr rfl)) pgs_nil))))
   (pss_cons (ps_for PassesOwn.never rfl (piR1 T.b_range (pa_cons (pe_bf (cl_len K) T.b_len bt_len (pa_cons (pe_ix (ixL K) (pv 1) pe_int (fun _ _=>rfl)) pa_nil)) pa_nil)) (pg_name (i:=4) sc.nd rfl (by first | exact Or.inl rfl | exact Or.inr rfl))
   (pss_one (ps_if (pt_cmpR op_eq (pe_fn T.law_pick G_law_pick (hr.mono (by decide)) (pa_cons (pv 0) (pa_cons pe_int pa_nil))) pe_int (nomark _)) (pss_cons (ps_set (i:=2) sc.nd rfl (by first | exact Or.inl rfl | exact Or.inr rfl) (pe_op op_or (pv 2) (pe_op op_shl pe_int (pv 4))))
   (pss_one (ps_if (pt_val (pe_fn T.law_is_quiet G_law_is_quiet (hr.mono (by decide)) (pa_cons (pv 1) (pa_cons (pe_op op_or (pv 3) (pe_op op_shl pe_int (pv 4))) pa_nil)))) (pss_one (ps_set (i:=3) sc.nd rfl (by first | exact Or.inl rfl | exact Or.inr rfl) (pe_op op_or (pv 3) (pe_op op_shl pe_int (pv 4))))) pss_nil))) pss_nil)))
   (pss_one (ps_ret (pe_ix (ixL K) (pe_lst (pa_cons (pv 2) (pa_cons (pv 3) (pa_cons (pe_op op_or (pv 3) (pe_fn T.law_kept G_law_kept (hr.mono (by decide)) (pa_cons (pv 1) (pa_cons (pv 3) pa_nil)))) pa_nil)))) (pe_fn T.law_pick G_law_pick (hr.mono (by decide)) (pa_cons (pv 0) (pa_cons pe_int pa_nil))) (fun _ _=>rfl)))))),?_⟩
  refine ⟨by show 2<=sizeLine; decide,fun t ht=>⟨t,_,rfl,SqT.of upd_same,rfl,_,_,rfl,_,_,rfl,rfl,?_⟩⟩
  have s1:Same H (upd H t (.tup [.int 0,.int 0])):=Same.new ht
  refine ex1 rfl ⟨v,_,ex2_3 rfl rfl ⟨SqL.of (s1 _ _ e1),rfl,ex2_3 (a:=a) rfl (.inl (SqL.of (s1 _ _ e2))) (ex1 rfl ⟨?_,?_,?_⟩)⟩⟩
  ·lia
  ·rw [List.length_map]; lia
  rw [List.length_map,Int.toNat_natCast]
  refine for_rangeG (fun i σ H1=>Sm [p] H H1/\LeftAt H1 p (c + i)/\∃ (d r:Nat) (v4:Option V),σ = [some (.ref p),some (.ref v),some (.int (d:Int)),some (.int (r:Int)),v4]/\Low ns.length d/\Low ns.length r) ?_ ?_ ?_
  ·exact ⟨s1.sm,(hL.cast (by lia)).same s1,0,0,_,rfl,Low.zero _,Low.zero _⟩
  ·intro i σ H1 hi zq122 D1 hD1 _
   obtain ⟨k1,L1,d,r,v4,zq123,hd,hr1⟩:=zq122
   subst zq123
   rw [Int.zero_add]
   refine ex1 rfl (ex3_6 (a:=p) rfl L1 (by lia) (by decide) (by decide) fun d1 H2 hd1 k2 L2=>⟨rfl,_,rfl,?_⟩)
   have k2:=k1.trans k2
   refine ite2 (fun hb=>?_) (fun hb=>?_)
   ·refine ex1 rfl (ex1 rfl (ex2_3 rfl rfl ⟨⟨by lia,by lia,by decide⟩,ex2_3 rfl rfl ?_⟩))
    dsimp only
    rw [shl1,bor]
    refine ex1 rfl (ex1 rfl (ex1 rfl (ex2_3 rfl rfl ⟨⟨by lia,by lia,by decide⟩,ex2_3 rfl rfl ?_⟩)))
    dsimp only
    rw [shl1,bor]
    refine ⟨p,v,_,ns,ks,A,B,rfl,hV.sm k2,ln,fun b _=>⟨_,rfl,?_⟩⟩
    refine ite2 (fun hb=>?_) (fun hb=>?_)
    ·refine ex1 rfl (ex1 rfl (ex2_3 rfl rfl ⟨⟨by lia,by lia,by decide⟩,ex2_3 rfl rfl ?_⟩))
     dsimp only
     rw [shl1,bor]
     exact hD1 _ _ ⟨k2,L2.cast (by lia),_,_,_,rfl,hd.or hi,hr1.or hi⟩
    ·exact hD1 _ _ ⟨k2,L2.cast (by lia),_,_,_,rfl,hd.or hi,hr1⟩
   ·exact hD1 _ _ ⟨k2,L2.cast (by lia),d,r,_,rfl,hd,hr1⟩
  ·intro σ H1 zq124
   obtain ⟨k1,L1,d,r,v4,zq125,hd,hr1⟩:=zq124
   subst zq125
   refine ex1 rfl (ex1 rfl (ex1 rfl (ex1 rfl (ex1 rfl ⟨p,v,r,ns,ks,A,B,rfl,hV.sm k1,ln,fun h hh=>?_⟩))))
   refine ex2_3 rfl rfl ?_
   dsimp only
   rw [bor]
   refine ⟨by show 3<=sizeLine; decide,fun l hl=>?_⟩
   have e5:=L1.get
   have L2:=L1.upd (o:=.lst [.int (d:Int),.int (r:Int),.int ((r ||| h:Nat):Int)]) (ne_of_none e5 hl)
   refine ex1 rfl (ex3_6 (a:=p) rfl L2 (by lia) (by decide) (by decide) fun d1 H3 hd1 k3 L3=>?_)
   have k4:=(k1.new (o:=.lst [.int (d:Int),.int (r:Int),.int ((r ||| h:Nat):Int)]) hl).trans k3
   have hh':Low ns.length h:=fun j hj=>((hh j).mp hj).1
   have fin:∃ m:Nat,Low ns.length m/\atI [.int (d:Int),.int (r:Int),.int ((r ||| h:Nat):Int)] (d1:Int) = some (V.int (m:Int)):=by
    match d1,hd1 with
    | 0,_=>exact ⟨d,hd,atI_nat (j:=0) rfl⟩
    | 1,_=>exact ⟨r,hr1,atI_nat (j:=1) rfl⟩
    | 2,_=>exact ⟨_,hr1.or' hh',atI_nat (j:=2) rfl⟩
    | n + 3,z=>exact absurd z (by lia)
   refine o1_2 fin fun m hm em=>?_
   try clear fin
   refine ⟨l,_,ex2_3 rfl rfl ⟨SqL.of (Sm1 k3 upd_same (ne_of_none e5 hl).symm),em,?_⟩⟩
   exact q m H3 hm k4 (L3.cast (by lia))
end
end Sw
namespace Sw
open PySem L2
theorem ite_join {b:Bool} {t1:TS} {D:Ends} {σ:St} {H:Hp} (J:St->Hp->Prop) (hJ:∀ σ' H',J σ' H'->D.nx σ' H') (h1:(∀ σ' H',J σ' H'->D.nx σ' H')->b = true->t1 D σ H) (h2:¬ b = true->J σ H):if b = true then t1 D σ H else tNext D σ H:=by
 by_cases h:b = true
 ·rw [if_pos h]; exact h1 hJ h
 ·rw [if_neg h]; exact hJ _ _ (h2 h)
theorem pair_sm {H H':Hp} {p:Addr} {c:Int} {q:PA2} (h:PairIn H q) (L:LeftAt H p c) (s:Sm [p] H H'):PairIn H' q:=by
 refine o2_2 L fun x y e _=>?_
 try clear L
 exact Sm1 s h (ne_of h e (by intro z; cases z))
theorem low_lt {n z m:Nat} (h:m < 2 ^ z) (l:z<=n):Low n m:=fun j hj=>by
 by_cases e:j < z
 ·lia
 ·have:m < 2 ^ j:=Nat.lt_of_lt_of_le h (Nat.pow_le_pow_right (by decide) (by lia))
  rw [Nat.testBit_lt_two_pow this] at hj
  cases hj
theorem min6 (l:Nat):(if ((l:Nat):Int) < 6 then ((l:Nat):Int) else 6) = ((min 6 l:Nat):Int):=by
 by_cases h:l < 6
 ·rw [if_pos (by lia),Nat.min_eq_right (by lia)]
 ·rw [if_neg (by lia),Nat.min_eq_left (by lia)]; rfl
structure DrawnAt (H:Hp) (p n a v m:Addr) (ss:List Str) (ps:List PA2) (ns:List Str) (A B ms:List Nat) (c:Int):Prop where
 left:LeftAt H p c
 few:c<=50000
 at_n:H n = some (.lst (ss.map V.str))
 ok_n:NamesOk ss
 len_n:ss.length<=30
 at_a:H a = some (.lst (refs ps))
 pin:∀ q ∈ ps,PairIn H q
 ok_a:StrkOk ss ps
 perm:ns.Perm ss
 srt:ns.Pairwise leS
 view:ViewAt H p v ns (ps.map fun q=>q.2) A B
 at_m:H m = some (.lst (ms.map natV))
 len_m:ms.length<=64
 low:∀ m ∈ ms,Low ns.length m
 ne_m:m ≠ p
section
variable {P:Program} {w:World} {K:PySem.W.Frag} {mg:Str->Option Value} {base:Heap}
theorem sc_law_drawn:FnScope ["_law_script", "_law_k", "_law_left_here", "_law_names_here", "_law_strikes_here", "_law_view", "_law_masks_here"] ["_law_script", "_law_k"] (defScope s_law_drawn):=⟨rfl,rfl,rfl,by decide +kernel,rfl,by decide +kernel,by decide +kernel⟩
noncomputable def sp_drawn (K:PySem.W.Frag):Sp:=fun vs H Q _=>∃ (u:Addr) (xs:List Int) (k:Nat),vs = [.ref u,.int (k:Int)]/\SqL K H u (xs.map V.int)/\k<=1000 /\
 ∀ t p n a v m ss ps ns A B ms c H',Same H H'->H p = none->H' t = some (.tup [.ref p,.ref n,.ref a,.ref v,.ref m])->DrawnAt H' p n a v m ss ps ns A B ms c->Q (.ref t) H'
set_option maxHeartbeats 4000000 in
theorem ok_law_drawn (T:Tx K mg):FnOk P w K mg base CX0 4 T.law_drawn.f T.law_drawn.fd ["_law_script", "_law_k"] (sp_drawn K):=by
 have G_law_pick:FnOk P w K mg base CX0 2 T.law_pick.f T.law_pick.fd ["_law_left_here", "_law_many"] sp_pick:=ok_law_pick T
 have G_law_left:FnOk P w K mg base CX0 1 T.law_left.f T.law_left.fd ["_law_script", "_law_k"] (sp_left K):=ok_law_left T
 have G_law_names:FnOk P w K mg base CX0 3 T.law_names.f T.law_names.fd ["_law_left_here", "_law_many"] sp_names:=ok_law_names T
 have G_law_size:FnOk P w K mg base CX0 3 T.law_size.f T.law_size.fd ["_law_left_here"] sp_size:=ok_law_size T
 have G_law_strikes:FnOk P w K mg base CX0 3 T.law_strikes.f T.law_strikes.fd ["_law_left_here", "_law_names_here"] (sp_strikes K):=ok_law_strikes T
 have G_law_many_names:FnOk P w K mg base CX0 3 T.law_many_names.f T.law_many_names.fd ["_law_left_here", "_law_many"] sp_many_names:=ok_law_many_names T
 have G_law_few_strikes:FnOk P w K mg base CX0 3 T.law_few_strikes.f T.law_few_strikes.fd ["_law_left_here", "_law_names_here"] sp_few_strikes:=ok_law_few_strikes T
 have G_law_masks:FnOk P w K mg base CX0 1 T.law_masks.f T.law_masks.fd ["_law_names_here", "_law_strikes_here"] sp_masks:=ok_law_masks T
 have G_law_some:FnOk P w K mg base CX0 3 T.law_some.f T.law_some.fd ["_law_left_here", "_law_view"] sp_some:=ok_law_some T
 have sc:=sc_law_drawn
 refine T.law_drawn.F.ok sc_law_drawn (fun vs H Q E h=>?_) (fun cdv A outer s H vs Q E hr h=>?_)
 ·refine o3_2 h fun u xs k zq126 _=>?_
  try clear h
  subst zq126
  rfl
 ·refine o3_4 h fun u xs k zq127 hS hk q=>?_
  try clear h
  subst zq127
  refine ⟨_,(pss_cons (ps_set (i:=2) sc.nd rfl (by first | exact Or.inl rfl | exact Or.inr rfl) (pe_fn T.law_left G_law_left (hr.mono (by decide)) (pa_cons (pv 0) (pa_cons (pv 1) pa_nil))))
   (pss_cons (ps_set (i:=3) sc.nd rfl (by first | exact Or.inl rfl | exact Or.inr rfl) (pe_fn T.law_names G_law_names (hr.mono (by decide)) (pa_cons (pv 2) (pa_cons (pe_fn T.law_size G_law_size (hr.mono (by decide)) (pa_cons (pv 2) pa_nil)) pa_nil))))
   (pss_cons (ps_set (i:=4) sc.nd rfl (by first | exact Or.inl rfl | exact Or.inr rfl) (pe_fn T.law_strikes G_law_strikes (hr.mono (by decide)) (pa_cons (pv 2) (pa_cons (pv 3) pa_nil))))
   (pss_cons (ps_if (pt_cmpR op_eq (pe_fn T.law_pick G_law_pick (hr.mono (by decide)) (pa_cons (pv 2) (pa_cons pe_int pa_nil))) pe_int (nomark _)) (pss_cons (ps_set (i:=3) sc.nd rfl (by first | exact Or.inl rfl | exact Or.inr rfl) (pe_fn T.law_many_names G_law_many_names (hr.mono (by decide)) (pa_cons (pv 2) (pa_cons (pe_op op_add pe_int (pe_fn T.law_pick G_law_pick (hr.mono (by decide)) (pa_cons (pv 2) (pa_cons pe_int pa_nil)))) pa_nil))))
   (pss_one (ps_set (i:=4) sc.nd rfl (by first | exact Or.inl rfl | exact Or.inr rfl) (pe_fn T.law_few_strikes G_law_few_strikes (hr.mono (by decide)) (pa_cons (pv 2) (pa_cons (pv 3) pa_nil)))))) pss_nil)
   (pss_cons (ps_set (i:=5) sc.nd rfl (by first | exact Or.inl rfl | exact Or.inr rfl) (pe_fn T.law_masks G_law_masks (hr.mono (by decide)) (pa_cons (pv 3) (pa_cons (pv 4) pa_nil))))
   (pss_cons (ps_set (i:=6) sc.nd rfl (by first | exact Or.inl rfl | exact Or.inr rfl) (pe_bt call_listR T.b_list bt_list (pa_cons (pe_bt call_range1 T.b_range bt_range (pa_cons (pe_op op_shl pe_int (pe_bf (call_min2 rfl) T.b_min bt_min (pa_cons pe_int (pa_cons (pe_bf (cl_len K) T.b_len bt_len (pa_cons (pv 3) pa_nil)) pa_nil)))) pa_nil)) pa_nil)))
   (pss_cons (ps_if (pt_cmpR op_gt (pe_bf (cl_len K) T.b_len bt_len (pa_cons (pv 3) pa_nil)) pe_int (nomark _)) (pss_one (ps_set (i:=6) sc.nd rfl (by first | exact Or.inl rfl | exact Or.inr rfl) (pe_op op_cat (pe_lst (pa_cons pe_int pa_nil)) (pe_lc (N':=["_law_turn", "_law_left_here", "_law_view"]) (cap:=[none,some 2,some 5]) (cl:=[("_law_view",_),("_law_left_here",_)]) (cs_mk ⟨⟨rfl,rfl,rfl,rfl⟩,⟨⟨rfl,rfl,rfl,rfl⟩,trivial⟩⟩ ⟨rfl,⟨rfl,trivial⟩⟩) rfl (piR1 T.b_range (pa_cons pe_int pa_nil)) (fun _ _ _ _=>by exact ⟨(pgC 0),pts_nil,(pe_fn T.law_some G_law_some (hr.mono (by decide)) (pa_cons (pv 1) (pa_cons (pv 2) pa_nil)))⟩))))) pss_nil)
   (pss_one (ps_ret (pe_tup (pa_cons (pv 2) (pa_cons (pv 3) (pa_cons (pv 4) (pa_cons (pv 5) (pa_cons (pv 6) pa_nil))))))))))))))),?_⟩
  refine seq_gen fun N1 hN1=>?_
  refine ex1 rfl (ex1 rfl ⟨u,xs,k,rfl,hS,hk,fun p H1 hp s1 L1=>?_⟩)
  refine hN1 _ _ (seq_gen fun N2 hN2=>?_)
  refine ex1 rfl (ex1 rfl ⟨p,0,rfl,L1,by decide,fun sz H2 hsz k2 L2=>?_⟩)
  refine ⟨p,_,sz,rfl,L2,by lia,by lia,fun n ss H3 hn k3 e3 l3 N3 L3=>?_⟩
  have k3:=k2.trans k3
  refine hN2 _ _ (seq_gen fun N4 hN4=>?_)
  refine ex1 rfl (ex1 rfl ⟨p,n,_,ss,rfl,L3,by lia,e3,N3,by lia,fun a ps c4 H4 ha k4 e4 pin4 O4 hc4 L4=>?_⟩)
  have n4:H4 n = some (.lst (ss.map V.str)):=Sm1 k4 e3 (L3.ne e3)
  refine hN4 _ _ (seq_gen fun N5 hN5=>?_)
  refine ex1 rfl (ex3_6 (a:=p) rfl L4 (by lia) (by decide) (by decide) fun d H5 hd k5 L5=>⟨rfl,_,rfl,?_⟩)
  have k5':=(k3.trans k4).trans k5
  refine ite_join (fun σ H6=>∃ n a ss ps c v5 v6,σ = [some (.ref u),some (.int (k:Int)),some (.ref p),some (.ref n),some (.ref a),v5,v6]/\Sm [p] H1 H6/\LeftAt H6 p c/\c<=10000/\H6 n = some (.lst (ss.map V.str))/\NamesOk ss/\ss.length<=30 /\
   H6 a = some (.lst (refs ps))/\(∀ q ∈ ps,PairIn H6 q)/\StrkOk ss ps) ?_ ?_ ?_
  ·intro σ H6 zq128
   obtain ⟨n,a,ss,ps,c,v5,v6,zq129,k6,L6,c6,e6,N6,l6,a6,pin6,O6⟩:=zq128
   subst zq129
   have e0:=L6.get
   refine hN5 _ _ (seq_gen fun N7 hN7=>?_)
   refine ex1 rfl (ex1 rfl (ex4_7 (a:=n) (b:=a) (c:=ss) (d:=ps) rfl e6 N6 a6 pin6 O6 fun v ns A B H7 hv s7 pm srt V7=>?_))
   refine hN7 _ _ (seq_gen fun N8 hN8=>?_)
   have V7:=V7 _ _ e0
   have L7:=L6.same s7
   have e7:=s7 _ _ e6
   have lm:(ss.map V.str).length = ss.length:=List.length_map ..
   have ln:ns.length = ss.length:=pm.length_eq
   refine ex1 rfl (ex2_3 (a:=n) rfl (.inl (SqL.of e7)) ?_)
   refine ⟨_,ex1 rfl ?_⟩
   rw [lm,min6]
   have hz:min 6 ss.length<=6:=Nat.min_le_left ..
   have hz2:min 6 ss.length<=ss.length:=Nat.min_le_right ..
   generalize hmin:min 6 ss.length = z at hz hz2 ⊢
   have hpz:2 ^ z<=2 ^ 6:=Nat.pow_le_pow_right (by decide) hz
   refine ex2_3 rfl rfl ⟨⟨by lia,by lia,by decide⟩,?_⟩
   dsimp only
   rw [shl1]
   refine ex1 rfl (fun r hr0=>⟨r,2 ^ z,rfl,upd_same,by lia,fun m hm=>?_⟩)
   have s8:Same H7 (upd H7 r (.rng 0 ((2 ^ z:Nat):Int))):=Same.new hr0
   have s9:=s8.trans (Same.new (o:=.lst ((List.range (2 ^ z)).map fun k:Nat=>V.int (k:Int))) hm)
   have e9:(upd (upd H7 r (.rng 0 ((2 ^ z:Nat):Int))) m (.lst ((List.range (2 ^ z)).map fun k:Nat=>V.int (k:Int)))) m = some (.lst ((List.range (2 ^ z)).map natV)):=upd_same
   generalize upd (upd H7 r (.rng 0 ((2 ^ z:Nat):Int))) m (.lst ((List.range (2 ^ z)).map fun k:Nat=>V.int (k:Int))) = H9 at s9 e9 ⊢
   refine hN8 _ _ (seq_gen fun N9 hN9=>?_)
   refine ex1 rfl (ex2_3 (a:=n) rfl (.inl (SqL.of (s9 _ _ e7))) (ex2_3 rfl rfl (ex1 rfl ?_)))
   have k9:Sm [p] H1 H9:=k6.trans (s7.trans s9).sm
   have L9:=L7.same s9
   have e99:=L9.get
   refine ite_join (fun σ H10=>∃ (m:Addr) (ms:List Nat) (c:Int),σ = [some (.ref u),some (.int (k:Int)),some (.ref p),some (.ref n),some (.ref a),some (.ref v),some (.ref m)]/\Sm [p] H9 H10/\LeftAt H10 p c/\c<=20000/\H10 m = some (.lst (ms.map natV))/\ms.length<=64/\(∀ m ∈ ms,Low ns.length m)/\m ≠ p) ?_ ?_ ?_
   ·intro σ H10 zq130
    refine o3_8 zq130 fun m ms c' zq131 k10 L10 c10 e10 lm10 lo10 ne10=>?_
    subst zq131
    refine hN9 _ _ ?_
    refine ex1 rfl (ex1 rfl (ex1 rfl (ex1 rfl (ex1 rfl ⟨by show 5<=sizeLine; decide,fun t ht=>?_⟩))))
    have s11:=Same.new (o:=.tup [.ref p,.ref n,.ref a,.ref v,.ref m]) ht
    have tot:Same H (upd H10 t (.tup [.ref p,.ref n,.ref a,.ref v,.ref m])):=fun b o e=>s11 _ _ (k10 b o (k9 b o (s1 b o e) (by simpa using ne_of_none e hp)) (by simpa using ne_of_none e hp))
    have n9:=s9 _ _ e7
    have a9:=s9 _ _ (s7 _ _ a6)
    refine q t p n a v m ss ps ns A B ms c' _ tot hp upd_same ⟨L10.same s11,by lia,s11 _ _ (Sm1 k10 n9 (L9.ne n9)),N6,l6,s11 _ _ (Sm1 k10 a9 (L9.neP a9)),fun q hq=>s11 _ _ (pair_sm (s9 _ _ (s7 _ _ (pin6 q hq))) L9 k10),O6,pm,srt,((V7.same s9).sm k10).same s11,s11 _ _ e10,lm10,lo10,ne10⟩
   ·intro hJ _
    refine ⟨by show 1<=sizeLine; decide,fun t ht=>?_⟩
    have npt:p ≠ t:=ne_of_none e99 ht
    have s10:Same H9 (upd H9 t (.lst [.int 0])):=Same.new ht
    refine ex1 rfl ⟨by decide,by decide,fun D hD=>?_⟩
    have hD9:H9 D = none:=s10.free hD
    have npD:p ≠ D:=ne_of_none e99 hD9
    have ntD:t ≠ D:=ne_of_none upd_same hD
    have lns:ns.length<=30:=by lia
    refine loop_J (n:=40) (fun i σ H10=>(∃ v0,σ = [v0,some (.ref p),some (.ref v)])/\Sm [p] H9 H10/\LeftAt H10 p (c + i * (ns.length + 1))/\H10 t = some (.lst [.int 0])/\∃ ms:List Nat,H10 D = some (.lst (ms.map natV))/\ms.length = i/\∀ m ∈ ms,Low ns.length m) ?_ ?_ ?_ ?_ ?_
    ·exact ⟨⟨_,rfl⟩,(s10.trans (Same.new hD)).sm,(L9.cast (by lia)).same (s10.trans (Same.new hD)),by rw [upd_ne ntD,upd_same],[],upd_same,rfl,by simp⟩
    ·intro i σ H1 hi _
     exact hi
    ·intro σ H1 _
     exact Nat.le_refl _
    ·intro i σ H10 x H' N hi zq132 zq133 hN
     obtain ⟨zq134,k10,L10,t10,ms,e10,l10,lo10⟩:=zq132
     refine o1_1 zq134 fun v0 zq135=>?_
     subst zq135
     refine o0_2 zq133 fun zq136 zq137=>?_
     subst zq136
     subst zq137
     refine g_true ?_
     have hmul:((i:Int) + 1) * (ns.length + 1) = i * (ns.length + 1) + (ns.length + 1):=by rw [Int.add_mul,Int.one_mul]
     have hb:(i:Int) * (ns.length + 1)<=40 * 31:=by
      have h1:(i:Int) * (ns.length + 1)<=40 * (ns.length + 1):=Int.mul_le_mul_of_nonneg_right (by lia) (by lia)
      lia
     refine ex1 rfl (ex1 rfl ⟨p,v,_,ns,ex3_6 (b:=A) (c:=B) rfl L10 (by lia) ((V7.same s9).sm k10) (by lia) fun m H11 lo11 k11 L11=>?_⟩)
     refine ⟨_,Sm1 k11 e10 npD.symm,by rw [List.length_map,sizeLine_eq]; lia,hN _ _ ⟨⟨_,rfl⟩,(k10.trans k11).updN hD9,?_,?_,ms ++ [m],?_,by rw [List.length_append,l10]; rfl,?_⟩⟩
     ·refine LeftAt.upd (L11.cast ?_) npD
      have:((i + 1:Nat):Int) = (i:Int) + 1:=by lia
      rw [this,hmul]
      lia
     ·rw [upd_ne ntD]; exact Sm1 k11 t10 npt.symm
     ·rw [upd_same,List.map_append]; rfl
     ·intro x hx
      rcases List.mem_append.mp hx with hx | hx
      ·exact lo10 x hx
      ·rw [List.mem_singleton.mp hx]; exact lo11
    ·intro σ H10 zq138
     obtain ⟨zq139,k10,L10,t10,ms,e10,l10,lo10⟩:=zq138
     refine o1_1 zq139 fun v0 zq140=>?_
     subst zq140
     have hb:(40:Int) * (ns.length + 1)<=40 * 31:=by lia
     have e11:=L10.get
     refine ⟨t,D,ex2_3 rfl rfl ⟨t10,e10,by rw [List.length_map,sizeLine_eq]; show 1 + ms.length<=_; lia,fun m' hm'=>?_⟩⟩
     refine hJ _ _ ⟨m',0 :: ms,_,rfl,k10.new hm',L10.upd (ne_of_none e11 hm'),?_,upd_same,by rw [List.length_cons]; lia,?_,(ne_of_none e11 hm').symm⟩
     ·show c + (40:Int) * (ns.length + 1)<=20000
      lia
     ·intro x hx
      rcases List.mem_cons.mp hx with hx | hx
      ·rw [hx]; exact Low.zero _
      ·exact lo10 x hx
   ·intro _
    exact ⟨m,List.range (2 ^ z),c,rfl,Sm.refl _ _,L9,by lia,e9,by rw [List.length_range]; exact hpz,fun x hx=>low_lt (List.mem_range.mp hx) (by lia),ne_of_none (s7 _ _ e0) (s8.free hm) |>.symm⟩
  ·intro hJ _
   have e0:=L5.get
   refine ex1 rfl (ex1 rfl (ex3_6 (a:=p) rfl L5 (by lia) (by decide) (by decide) fun d2 H6 hd2 k6 L6=>?_))
   refine ex2_3 rfl rfl ⟨p,_,11 + d2,rfl,L6,by lia,by lia,fun n ss H7 hn k7 e7 l7 N7 L7=>?_⟩
   refine ex1 rfl (ex1 rfl ⟨p,n,_,ss,rfl,L7,by lia,e7,N7,by lia,by lia,fun a ps c8 H8 ha k8 e8 pin8 O8 hc8 L8=>?_⟩)
   exact hJ _ _ ⟨n,a,ss,ps,c8,_,_,rfl,((k5'.trans k6).trans k7).trans k8,L8,by lia,Sm1 k8 e7 (L7.ne e7),N7,by lia,e8,pin8,O8⟩
  ·intro _
   exact ⟨n,a,ss,ps,_,_,_,rfl,k5',L5,by lia,Sm1 k5 n4 (L4.ne n4),N3,by lia,Sm1 k5 e4 (L4.neP e4),fun q hq=>pair_sm (pin4 q hq) L4 k5,O4⟩
end
end Sw
namespace Sw
open PySem L2
theorem cut_from {xs:List V} {k:Nat} (h:k<=xs.length):cutV xs (some (k:Int)) none = xs.drop k:=by
 unfold cutV
 rw [HT.sIx_nat,HT.sIx_none,Nat.min_eq_left h]
 exact List.take_of_length_le (by rw [List.length_drop]; lia)
theorem cut_to {xs:List V} {k:Nat} (h:k<=xs.length):cutV xs none (some (k:Int)) = xs.take k:=by
 unfold cutV
 rw [HT.sIx_nat,HT.sIx_none,Nat.min_eq_left h]
 rfl
theorem perm_rot {α:Type} (l:List α) (k:Nat):(l.drop k ++ l.take k).Perm l:=by
 have:=List.perm_append_comm (l₁:=l.drop k) (l₂:=l.take k)
 rwa [List.take_append_drop] at this
section
variable {P:Program} {w:World} {K:PySem.W.Frag} {mg:Str->Option Value} {base:Heap}
theorem sc_law_handed:FnScope ["_law_left_here", "_law_some_here", "_law_cut", "_law_row"] ["_law_left_here", "_law_some_here"] (defScope s_law_handed):=⟨rfl,rfl,rfl,by decide +kernel,rfl,by decide +kernel,by decide +kernel⟩
noncomputable def sp_handed:Sp:=fun vs H Q _=>∃ (p s:Addr) (c:Int) (ss:List Str),vs = [.ref p,.ref s]/\LeftAt H p c/\c<=900000/\H s = some (.lst (ss.map V.str))/\ss.length<=100 /\
 ∀ h (rs:List Str) H',H h = none->Sm [p] H H'->(H' h = some (.lst (rs.map V.str))\/H' h = some (.tup (rs.map V.str)))->rs.Perm ss->LeftAt H' p (c + 3)->Q (.ref h) H'
set_option maxHeartbeats 1000000 in
theorem ok_law_handed (T:Tx K mg):FnOk P w K mg base CX0 3 T.law_handed.f T.law_handed.fd ["_law_left_here", "_law_some_here"] sp_handed:=by
 have G_law_pick:FnOk P w K mg base CX0 2 T.law_pick.f T.law_pick.fd ["_law_left_here", "_law_many"] sp_pick:=ok_law_pick T
 have sc:=sc_law_handed
 refine T.law_handed.F.ok sc_law_handed (fun vs H Q E h=>?_) (fun cdv A outer s H vs Q E hr h=>?_)
 ·refine o4_2 h fun p s c ss zq141 _=>?_
  try clear h
  subst zq141
  rfl
 ·refine o4_6 h fun p s c ss zq142 hL c1 hs ln q=>?_
  try clear h
  subst zq142
  have nsp:s ≠ p:=hL.ne hs
  have lm:(ss.map V.str).length = ss.length:=List.length_map ..
  refine ⟨_,(pss_cons (ps_set (i:=2) sc.nd rfl (by first | exact Or.inl rfl | exact Or.inr rfl) (pe_fn T.law_pick G_law_pick (hr.mono (by decide)) (pa_cons (pv 0) (pa_cons (pe_op op_add (pe_bf (cl_len K) T.b_len bt_len (pa_cons (pv 1) pa_nil)) pe_int) pa_nil))))
   (pss_cons (ps_set (i:=3) sc.nd rfl (by first | exact Or.inl rfl | exact Or.inr rfl) (pe_op op_cat (pe_slice (slL K) (pv 1) (po_some (pv 2)) po_none) (pe_slice (slL K) (pv 1) po_none (po_some (pv 2)))))
   (pss_cons (ps_if (pt_cmpR op_eq (pe_fn T.law_pick G_law_pick (hr.mono (by decide)) (pa_cons (pv 0) (pa_cons pe_int pa_nil))) pe_int (nomark _)) (pss_one (ps_expr (peBM0 K PySem.F.plainAttrs_list PySem.F.slot_list_reverse PySem.F.type_list_reverse mt_reverse (pv 3)))) pss_nil)
   (pss_one (ps_ret (pe_ix (ixL K) (pe_lst (pa_cons (pv 3) (pa_cons (pe_bt (cl_tuple K) T.b_tuple bt_tuple (pa_cons (pv 3) pa_nil)) pa_nil))) (pe_fn T.law_pick G_law_pick (hr.mono (by decide)) (pa_cons (pv 0) (pa_cons pe_int pa_nil))) (fun _ _=>rfl))))))),?_⟩
  refine ex1 rfl (ex1 rfl (ex2_3 (a:=s) rfl (.inl (SqL.of hs)) (ex2_3 rfl rfl (ex3_6 (a:=p) (b:=c) rfl hL (by lia) (by rw [lm]; lia) (by rw [lm]; lia) fun cut H1 hcut k1 L1=>?_))))
  rw [lm] at hcut
  have s1:=Sm1 k1 hs nsp
  have hcl:cut<=(ss.map V.str).length:=by rw [lm]; lia
  refine ex1 rfl (ex1 rfl (ex1 rfl ⟨s,ex1 rfl ⟨SqL.of s1,fun t1 ht1=>?_⟩⟩))
  rw [cut_from hcl,<-List.map_drop]
  have u1:=Same.new (o:=.lst ((ss.drop cut).map V.str)) ht1
  refine ex1 rfl (ex1 rfl (ex1 rfl ⟨s,ex1 rfl ⟨SqL.of (u1 _ _ s1),fun t2 ht2=>?_⟩⟩))
  rw [cut_to hcl,<-List.map_take]
  have u2:=Same.new (o:=.lst ((ss.take cut).map V.str)) ht2
  refine ⟨t1,t2,ex2_3 rfl rfl ⟨u2 _ _ upd_same,upd_same,?_,fun row hrow=>?_⟩⟩
  ·rw [List.length_map,List.length_map,List.length_drop,List.length_take,sizeLine_eq]; lia
  rw [<-List.map_append]
  have u3:=Same.new (o:=.lst ((ss.drop cut ++ ss.take cut).map V.str)) hrow
  have k3:=(u1.trans u2).trans u3
  have hr1:H1 row = none:=(u1.trans u2).free hrow
  have e1:=L1.get
  have npr:p ≠ row:=ne_of_none e1 hr1
  have hr0:H row = none:=k1.none (by simpa using npr.symm) hr1
  have L3:=L1.same k3
  have e3:(upd (upd (upd H1 t1 (.lst ((ss.drop cut).map V.str))) t2 (.lst ((ss.take cut).map V.str))) row (.lst ((ss.drop cut ++ ss.take cut).map V.str))) row = some (.lst ((ss.drop cut ++ ss.take cut).map V.str)):=upd_same
  generalize upd (upd (upd H1 t1 (.lst ((ss.drop cut).map V.str))) t2 (.lst ((ss.take cut).map V.str))) row (.lst ((ss.drop cut ++ ss.take cut).map V.str)) = H3 at k3 L3 e3 ⊢
  refine ex1 rfl (ex3_6 (a:=p) rfl L3 (by lia) (by decide) (by decide) fun d2 H4 hd2 k4 L4=>⟨rfl,_,rfl,?_⟩)
  have e4:=Sm1 k4 e3 npr.symm
  have k4':Sm [p] H H4:=(k1.trans k3.sm).trans k4
  refine ite_join (fun σ H5=>σ = [some (.ref p),some (.ref s),some (.int (cut:Int)),some (.ref row)]/\Sm [p] H H5/\LeftAt H5 p (c + 2)/\∃ rs:List Str,rs.Perm ss/\H5 row = some (.lst (rs.map V.str))) ?_ ?_ ?_
  ·intro σ H5 zq143
   obtain ⟨zq144,k5,L5,rs,pm,e5⟩:=zq143
   subst zq144
   have e5':=L5.get
   refine ex1 rfl (ex1 rfl ⟨row,ex1 rfl (.inl ⟨SqL.of e5,fun tt htt=>?_⟩)⟩)
   have u6:=Same.new (o:=.tup (rs.map V.str)) htt
   have npt:p ≠ tt:=ne_of_none e5' htt
   have htt0:H tt = none:=k5.none (by simpa using npt.symm) htt
   refine ⟨by show 2<=sizeLine; decide,fun l hl=>?_⟩
   have u7:=Same.new (o:=.lst [.ref row,.ref tt]) hl
   have npl:p ≠ l:=ne_of_none (u6 _ _ e5') hl
   have L7:=L5.same (u6.trans u7)
   refine ex1 rfl (ex3_6 (a:=p) rfl L7 (by lia) (by decide) (by decide) fun d3 H8 hd3 k8 L8=>?_)
   have k8':Sm [p] H H8:=(k5.trans (u6.trans u7).sm).trans k8
   have er:=Sm1 k8 (u7 _ _ (u6 _ _ e5)) npr.symm
   have et:=Sm1 k8 (u7 _ _ upd_same) npt.symm
   have el:=Sm1 k8 upd_same npl.symm
   match d3,hd3 with
   | 0,_=>exact ⟨l,_,_,_,rfl,rfl,SqL.of el,rfl,q row rs H8 hr0 k8' (.inl er) pm (L8.cast (by lia))⟩
   | 1,_=>exact ⟨l,_,_,_,rfl,rfl,SqL.of el,rfl,q tt rs H8 htt0 k8' (.inr et) pm (L8.cast (by lia))⟩
   | n + 2,z=>exact absurd z (by lia)
  ·intro hJ _
   refine ex1 rfl ⟨.inl ⟨rfl,_,SqL.of e4⟩,row,ex1 rfl ⟨rfl,e4,?_⟩⟩
   refine hJ _ _ ⟨rfl,k4'.updN hr0,(L4.cast (by lia)).upd npr,(ss.drop cut ++ ss.take cut).reverse,(List.reverse_perm _).trans (perm_rot ss cut),?_⟩
   rw [upd_same,List.map_reverse]
  ·intro _
   exact ⟨rfl,k4',L4.cast (by lia),_,perm_rot ss cut,e4⟩
end
end Sw
namespace Sw
open PySem L2
theorem WebAt.sm {C:Addr} {H H':Hp} {x p:Addr} {c:Int} {ns:List Str} {qs:List PA2} (h:WebAt C H x ns qs) (L:LeftAt H p c) (s:Sm [p] H H'):WebAt C H' x ns qs:=by
 obtain ⟨ok,dx,a,b,c,d,kc,kd,e1,e2,e3,e4,e5,e6,e7,e8⟩:=h
 refine o2_2 (id L) fun y z e0 _=>?_
 have k:∀ {b:Addr} {o:HO},H b = some o->o ≠ .lst [.int y,.int z,.int _]->H' b = some o:=fun e n=>Sm1 s e (ne_of e e0 n)
 exact ⟨ok,dx,a,b,c,d,kc,kd,k e1 (by intro z; cases z),Sm1 s e2 (L.ne e2),Sm1 s e3 (L.neP e3),fun q hq=>pair_sm (e4 q hq) L s,k e5 (by intro z; cases z),k e6 (by intro z; cases z),fun n hn=>let ⟨l,v,e⟩:=e7 n hn; ⟨l,v,Sm1 s e (L.ne e)⟩,fun n hn=>let ⟨l,v,e⟩:=e8 n hn; ⟨l,v,Sm1 s e (L.ne e)⟩⟩
noncomputable def sd (ss:List Str):PyData:=.list (ss.map PyData.str)
theorem rps_strs {K:PySem.W.Frag} {H:Hp}:∀ ss:List Str,Rps K H (ss.map PyData.str) (ss.map V.str)
 | []=>by simp [Rps]
 | x :: r=>by
  simp only [List.map_cons,Rps,Rp]
  exact ⟨_,_,rfl,rfl,rps_strs r⟩
theorem rp_strs {K:PySem.W.Frag} {H:Hp} {l:Addr} {ss:List Str} (h:SqL K H l (ss.map V.str)):Rp K H (sd ss) (.ref l):=by
 unfold sd
 simp only [Rp]
 exact ⟨l,_,rfl,h,rps_strs ss⟩
theorem depth_strs:∀ ss:List Str,PyData.depthAll (ss.map PyData.str)<=1
 | []=>by simp [PyData.depthAll]
 | x :: r=>by
  have:=depth_strs r
  simp only [List.map_cons,PyData.depthAll,PyData.depth]
  lia
theorem depth_pairs:∀ ps:List PA2,PyData.depthAll (ps.map fun q=>pd q.2)<=3
 | []=>by simp [PyData.depthAll]
 | x :: r=>by
  have:=depth_pairs r
  have e:(pd x.2).depth<=3:=by simp [pd,PyData.depth,PyData.depthAll]
  rw [List.map_cons,PyData.depthAll]
  lia
theorem lay_strs:∀ {ss:List Str},(∀ x ∈ ss,PySem.PyData.strOk x = true)->PyData.canLayAll0 (ss.map PyData.str) = true
 | [],_=>rfl
 | x :: r,h=>by
  rw [List.map_cons,PyData.canLayAll0,lay_strs fun z hz=>h z (List.mem_cons_of_mem _ hz)]
  simp [PyData.canLay0,h x (List.mem_cons_self ..)]
theorem pl_strs {ss:List Str} (h:∀ x ∈ ss,nameB x = true):Pl (sd ss):=by
 refine ⟨?_,?_⟩
 ·unfold sd
  rw [PyData.canLay0]
  exact lay_strs fun x hx=>nameB_ok (h x hx)
 ·unfold sd
  rw [PyData.depth]
  have:=depth_strs ss
  lia
theorem pl_pairs {ps:List PA2} (h:∀ q ∈ ps,nameB q.2.1 = true/\nameB q.2.2 = true):Pl (.list (ps.map fun q=>pd q.2)):=by
 refine ⟨?_,?_⟩
 ·rw [PyData.canLay0]
  exact lay_pds fun q hq=>⟨nameB_ok (h q hq).1,nameB_ok (h q hq).2⟩
 ·rw [PyData.depth]
  have:=depth_pairs ps
  lia
theorem ne_same {K:PySem.W.Frag} {x y:V} {d:PyData} {H:Hp} {Q:VK} (h1:Rp K H d x) (h2:Rp K H d y) (p:Pl d) (q:Q (.bl false) H):rNeD K x y H Q :=
 ⟨d,d,h1,h2,p,p,by rw [PySem.SeqAt.eqv_refl d p.1]; exact q⟩
theorem strk_keys {qs:List PA2} {a b:Str}:Strk qs a b ↔ (a,b) ∈ qs.map fun q=>q.2:=by
 unfold Strk
 rw [List.mem_map]
 constructor
 ·rintro ⟨q,h,rfl,rfl⟩; exact ⟨q,h,rfl⟩
 ·rintro ⟨q,h,e⟩; exact ⟨q,h,congrArg Prod.fst e,congrArg Prod.snd e⟩
theorem bit_strk {ns:List Str} {ps:List PA2} {B:List Nat} (M:MB ns (ps.map fun q=>q.2) B) {i j:Nat} {x y:Str} (hi:ns[i]? = some x) (hj:ns[j]? = some y):(B.getD i 0).testBit j = true ↔ Strk ps x y:=by
 rw [M.bit,strk_keys]
 constructor
 ·intro zq145
  refine o1_3 zq145 fun k h h1 h2=>?_
  rw [hi] at h1
  rw [hj] at h2
  rw [Option.some.inj h1,Option.some.inj h2]
  exact h
 ·intro h
  exact ⟨(x,y),h,hi,hj⟩
theorem bit_ends {ns:List Str} {ks:List (Str × Str)} {B:List Nat} (M:MB ns ks B) {i j:Nat} (h:(B.getD i 0).testBit j = true):∃ x y,ns[i]? = some x/\ns[j]? = some y:=by
 refine o1_3 ((M.bit i j).mp h) fun k _ h1 h2=>?_
 exact ⟨_,_,h1,h2⟩
theorem quiet_iff {ns rs:List Str} {ps qs:List PA2} {B:List Nat} {m:Nat} (M:MB ns (ps.map fun q=>q.2) B) (pq:qs.Perm ps) (pr:rs.Perm (setOf ns m)):quietB qs rs = true ↔ QuietB B m:=by
 unfold quietB QuietB
 rw [List.all_eq_true]
 have st:∀ x y,Strk qs x y ↔ Strk ps x y:=fun x y=>by
  unfold Strk
  exact ⟨fun ⟨q,h,e⟩=>⟨q,pq.mem_iff.mp h,e⟩,fun ⟨q,h,e⟩=>⟨q,pq.mem_iff.mpr h,e⟩⟩
 constructor
 ·intro h i j hi hj hb
  refine o2_2 (bit_ends M hb) fun x y ex ey=>?_
  have mx:x ∈ rs:=pr.mem_iff.mpr (mem_setOf.mpr ⟨i,hi,ex⟩)
  have my:y ∈ rs:=pr.mem_iff.mpr (mem_setOf.mpr ⟨j,hj,ey⟩)
  exact of_decide_eq_true (h y my) ⟨x,mx,(st _ _).mpr ((bit_strk M ex ey).mp hb)⟩
 ·intro h y my
  refine decide_eq_true ?_
  intro zq146
  refine o1_2 zq146 fun x mx hs=>?_
  refine o1_2 (mem_setOf.mp (pr.mem_iff.mp mx)) fun i hi ex=>?_
  refine o1_2 (mem_setOf.mp (pr.mem_iff.mp my)) fun j hj ey=>?_
  exact h i j hi hj ((bit_strk M ex ey).mpr ((st _ _).mp hs))
end Sw
namespace Sw
open PySem L2
theorem strk_perm {ps qs:List PA2} (pq:qs.Perm ps) (x y:Str):Strk qs x y ↔ Strk ps x y:=by
 unfold Strk
 exact ⟨fun ⟨q,h,e⟩=>⟨q,pq.mem_iff.mp h,e⟩,fun ⟨q,h,e⟩=>⟨q,pq.mem_iff.mpr h,e⟩⟩
theorem bit_strkA {ns:List Str} {ps:List PA2} {A:List Nat} (M:MB ns ((ps.map fun q=>q.2).map fun k=>(k.2,k.1)) A) {i j:Nat} {x y:Str} (hi:ns[i]? = some x) (hj:ns[j]? = some y):(A.getD i 0).testBit j = true ↔ Strk ps y x:=by
 rw [M.bit,strk_keys]
 constructor
 ·intro zq1
  refine o1_3 zq1 fun k h h1 h2=>?_
  refine o1_2 (List.mem_map.mp h) fun k' h' zq2=>?_
  subst zq2
  rw [hi] at h1
  rw [hj] at h2
  have e:k' = (y,x):=Prod.ext (Option.some.inj h2).symm (Option.some.inj h1).symm
  rw [<-e]
  exact h'
 ·intro h
  exact ⟨(x,y),List.mem_map.mpr ⟨(y,x),h,rfl⟩,hi,hj⟩
theorem hit_iff {ns rs:List Str} {ps:List PA2} {B:List Nat} {m:Nat} (M:MB ns (ps.map fun q=>q.2) B) (pr:rs.Perm (setOf ns m)) {j:Nat} {y:Str} (hj:ns[j]? = some y):HitB B m j ↔ ∃ x ∈ rs,Strk ps x y:=by
 constructor
 ·intro zq3
  refine o1_2 zq3 fun k hk hb=>?_
  refine o2_2 (bit_ends M hb) fun x y' ex ey=>?_
  refine ⟨x,pr.mem_iff.mpr (mem_setOf.mpr ⟨k,hk,ex⟩),(bit_strk M ex hj).mp hb⟩
 ·intro zq4
  refine o1_2 zq4 fun x hx hs=>?_
  refine o1_2 (mem_setOf.mp (pr.mem_iff.mp hx)) fun k hk ex=>?_
  exact ⟨k,hk,(bit_strk M ex hj).mpr hs⟩
theorem kept_iff {ns rs:List Str} {ps:List PA2} {A B:List Nat} {m:Nat} (MA:MB ns ((ps.map fun q=>q.2).map fun k=>(k.2,k.1)) A) (M:MB ns (ps.map fun q=>q.2) B) (pr:rs.Perm (setOf ns m)) (hin:∀ x y,Strk ps x y->x ∈ ns) {j:Nat} {y:Str} (hj:ns[j]? = some y) :
  KeptB ns.length A B m j ↔ ∀ x,Strk ps x y->∃ z ∈ rs,Strk ps z x:=by
 constructor
 ·intro zq5 x hx
  refine o0_2 zq5 fun _ h=>?_
  obtain ⟨i,hi⟩:=List.mem_iff_getElem?.mp (hin x y hx)
  exact (hit_iff M pr hi).mp (h i ((bit_strkA MA hj hi).mpr hx))
 ·intro h
  refine ⟨(List.getElem?_eq_some_iff.mp hj).1,fun b hb=>?_⟩
  refine o2_2 (bit_ends MA hb) fun _ x _ hx=>?_
  exact (hit_iff M pr hx).mpr (h x ((bit_strkA MA hj hx).mp hb))
theorem quietP_iff {ns rs:List Str} {ps qs:List PA2} {B:List Nat} {m:Nat} (M:MB ns (ps.map fun q=>q.2) B) (pq:qs.Perm ps) (pr:rs.Perm (setOf ns m)):QuietP qs rs ↔ QuietB B m:=quietB_iff.symm.trans (quiet_iff M pq pr)
theorem back_iff2 {ns rs:List Str} {ps qs:List PA2} {A B:List Nat} {m:Nat} (MA:MB ns ((ps.map fun q=>q.2).map fun k=>(k.2,k.1)) A) (M:MB ns (ps.map fun q=>q.2) B) (pq:qs.Perm ps) (pr:rs.Perm (setOf ns m)) (lo:Low ns.length m) (hin:∀ x y,Strk ps x y->x ∈ ns) :
  BackP qs rs ↔ ∀ j,m.testBit j = true->KeptB ns.length A B m j:=by
 constructor
 ·intro h b hb
  have hlt:=lo b hb
  have hy:ns[b]? = some ns[b]:=List.getElem?_eq_getElem hlt
  refine (kept_iff MA M pr hin hy).mpr fun x hx=>?_
  obtain ⟨z,hz,hs⟩:=h x ns[b] (pr.mem_iff.mpr (mem_setOf.mpr ⟨b,hb,hy⟩)) ((strk_perm pq _ _).mpr hx)
  exact ⟨z,hz,(strk_perm pq _ _).mp hs⟩
 ·intro h x n hn hx
  refine o1_2 (mem_setOf.mp (pr.mem_iff.mp hn)) fun b hb hy=>?_
  refine o1_2 ((kept_iff MA M pr hin hy).mp (h b hb) x ((strk_perm pq _ _).mp hx)) fun z hz hs=>?_
  exact ⟨z,hz,(strk_perm pq _ _).mpr hs⟩
end Sw
namespace Sw
open PySem L2
section
variable {P:Program} {w:World} {K:PySem.W.Frag} {mg:Str->Option Value} {base:Heap}
theorem sc_law_says:FnScope ["_law_found", "_law_due"] ["_law_found", "_law_due"] (defScope s_law_says):=⟨rfl,rfl,rfl,by decide +kernel,rfl,by decide +kernel,by decide +kernel⟩
noncomputable def sp_says:Sp:=fun vs H Q _=>∃ a b:Bool,vs = [.bl a,.bl b]/\Q (.bl (decide (a = b))) H
theorem ok_law_says (T:Tx K mg):FnOk P w K mg base CX0 1 T.law_says.f T.law_says.fd ["_law_found", "_law_due"] sp_says:=by
 have sc:=sc_law_says
 refine T.law_says.F.ok sc_law_says (fun vs H Q E h=>?_) (fun cdv A outer s H vs Q E hr h=>?_)
 ·refine o2_2 h fun a b zq6 _=>?_
  try clear h
  subst zq6
  rfl
 ·refine o2_2 h fun a b zq7 q=>?_
  try clear h
  subst zq7
  refine ⟨_,(pss_one (ps_ret (pe_and (pe_bf (cl_isin K) T.b_isinstance bt_isinstance (pa_cons (pv 0) (pa_cons (pe_ty T.b_bool bt_bool) pa_nil))) (pe_one (pe_cmpR op_eq (pv 0) (pv 1) (nomark _)))))),?_⟩
  refine ex1 rfl ⟨_, "bool",_,true,rfl,.bl a,rfl,true,rfl,?_⟩
  refine iteT ⟨_,rfl,_,rfl,rfl,?_⟩
  have e:decide (V.bl a = V.bl b) = decide (a = b):=by cases a <;> cases b <;> decide
  rw [e]
  exact q
end
end Sw
namespace Sw
open PySem L2
noncomputable def KeptP (qs:List PA2) (ss:List Str) (n:Str):Prop:=∀ x,Strk qs x n->∃ m ∈ ss,Strk qs m x
noncomputable def sp_kept_by (K:PySem.W.Frag) (C:Addr):Sp:=fun vs H Q _=>∃ (x a:Addr) (ss ns:List Str) (qs:List PA2),vs = [.ref x,.ref a]/\WebAt C H x ns qs/\Sqs K H a (ss.map V.str)/\(∀ n ∈ ss,n ∈ ns)/\ss.length<=100 /\
 ∀ l (f:Str->Bool) H',H l = none->Same H H'->(∀ n ∈ ns,f n = true ↔ KeptP qs ss n)->H' l = some (.lst ((ns.filter f).map V.str))->Q (.ref l) H'
section
variable {P:Program} {w:World} {K:PySem.W.Frag} {mg:Str->Option Value} {base:Heap}
theorem sc_kept_by:FnScope ["web", "some", "hit"] ["web", "some"] (defScope s_kept_by):=⟨rfl,rfl,rfl,by decide +kernel,rfl,by decide +kernel,by decide +kernel⟩
theorem ok_kept_by (T:Tx K mg):FnOk P w K mg base CX0 4 T.kept_by.f T.kept_by.fd ["web", "some"] (sp_kept_by K T.CWeb):=by
 have G_struck_by_any:FnOk P w K mg base CX0 3 T.struck_by_any.f T.struck_by_any.fd ["web", "some"] (sp_any K T.CWeb struckOf):=ok_struck_by_any T
 have G_Web_all_names:FnOk P w K mg base CX0 1 T.mWeb_all_names.f T.mWeb_all_names.fd ["self"] (sp_all_names T.CWeb):=ok_Web_all_names T
 have G_Web_strikers:FnOk P w K mg base CX0 2 T.mWeb_strikers.f T.mWeb_strikers.fd ["self", "name"] (sp_strikers T.CWeb):=ok_Web_strikers T
 have sc:=sc_kept_by
 refine T.kept_by.F.ok sc_kept_by (fun vs H Q E h=>?_) (fun cdv A outer s H vs Q E hr h=>?_)
 ·refine o5_2 h fun x a ss ns qs zq8 _=>?_
  try clear h
  subst zq8
  rfl
 ·refine o5_6 h fun x a ss ns qs zq9 hW hS hM hl k=>?_
  try clear h
  subst zq9
  refine ⟨_,(pss_cons (ps_set (i:=2) sc.nd rfl (by first | exact Or.inl rfl | exact Or.inr rfl) (pe_fn T.struck_by_any G_struck_by_any (hr.mono (by decide)) (pa_cons (pv 0) (pa_cons (pv 1) pa_nil))))
   (pss_one (ps_ret (pe_lc (N':=["name", "hit", "web"]) (cap:=[none,some 2,some 0]) (cl:=[("web",_),("hit",_)]) (cs_mk ⟨⟨rfl,rfl,rfl,rfl⟩,⟨⟨rfl,rfl,rfl,rfl⟩,trivial⟩⟩ ⟨rfl,⟨rfl,trivial⟩⟩) rfl (piL K (pe_meth0 (pv 0) T.clWeb T.mWeb_all_names.m G_Web_all_names (hr.mono (by decide)) T.mWeb_all_names.b .nil pass0)) (fun _ _ _ _=>by exact ⟨(pgC 0),(pts_one (pt_val (pe_bf (cl_all K) T.b_all bt_all (pa_cons (pe_lc (N':=["striker", "hit"]) (cap:=[none,some 1]) (cl:=[("hit",_)]) (cs_mk ⟨⟨rfl,rfl,rfl,rfl⟩,trivial⟩ ⟨rfl,trivial⟩) rfl (piL K (pe_meth (pv 2) T.clWeb T.mWeb_strikers.m G_Web_strikers (hr.mono (by decide)) T.mWeb_strikers.b .nil pass0 (pa_cons (pv 0) pa_nil))) (fun _ _ _ _=>by exact ⟨(pgC 0),pts_nil,(pe_cmpR (o_inL K) (pv 0) (pv 1) rfl)⟩)) pa_nil)))),(pv 0)⟩))))),?_⟩
  refine ex1 rfl (ex1 rfl (ex5_5 (a:=x) (b:=a) (c:=ss) (d:=ns) (e:=qs) rfl hW hS hM fun l hs H1 hl0 s1 e1 m1 _ _ _=>?_))
  dsimp only [tSeq,tAsg,gName,tRet,tCB,tCons,tNil]
  have W1:=hW.same s1
  obtain ⟨ok,dx,a1,b,c,d,kc,kd,e2,_⟩:=(id W1)
  refine ex1 rfl ⟨x,dx,ex1 rfl ⟨e2,rfl,x,ns,qs,rfl,W1,fun l2 hl2=>?_⟩⟩
  have s2:=Same.new (o:=.lst (ns.map V.str)) hl2
  have f2:(upd H1 l2 (.lst (ns.map V.str))) l2 = some (.lst (ns.map V.str)):=upd_same
  generalize upd H1 l2 (.lst (ns.map V.str)) = H2 at s2 f2 ⊢
  refine ⟨l2,rfl,⟨_,SqL.of f2⟩,fun D hD=>?_⟩
  have hlen:=ok.len
  refine loop_as (asL (K:=K) (SqL.of f2)) (fun i σ H3=>(∃ v0,σ = [v0,some (.ref l),some (.ref x)])/\Same H2 H3/\H3 D = some (.lst (((ns.take i).filter fun n=>(strikersOf qs n).all fun y=>decide (y ∈ hs)).map V.str)))
   ⟨⟨_,rfl⟩,Same.new hD,upd_same⟩ (fun i σ H1 _ ⟨_,s1,_⟩=>s1.at l2) ?_ ?_
  ·intro i σ H3 v N hx zq10 hN
   refine o0_3 zq10 fun zq11 s3 e3=>?_
   refine o1_1 zq11 fun v0 zq12=>?_
   subst zq12
   rw [List.getElem?_map] at hx
   cases hy:ns[i]? with
   | none=>rw [hy] at hx; cases hx
   | some n =>
    rw [hy] at hx
    cases hx
    have hn:n ∈ ns:=List.mem_of_getElem? hy
    have W3:=(W1.same s2).same s3
    refine ex1 rfl ⟨x,dx,ex1 rfl ⟨s3 _ _ (s2 _ _ e2),rfl,ex1 rfl ⟨x,n,ns,qs,rfl,W3,hn,fun p hp=>?_⟩⟩⟩
    have s4:=Same.new (o:=.lst ((strikersOf qs n).map V.str)) hp
    have f4:(upd H3 p (.lst ((strikersOf qs n).map V.str))) p = some (.lst ((strikersOf qs n).map V.str)):=upd_same
    generalize upd H3 p (.lst ((strikersOf qs n).map V.str)) = H4 at s4 f4 ⊢
    have hDp:D ≠ p:=ne_of_none e3 hp
    have e4:=s4 _ _ e3
    have hit4:=s4 _ _ (s3 _ _ (s2 _ _ e1))
    refine ⟨p,rfl,⟨_,SqL.of f4⟩,fun D2 hD2=>?_⟩
    have s24:Same H2 H4:=s3.trans s4
    refine loop_as (asL (K:=K) (SqL.of f4)) (fun j σ H5=>(∃ v0,σ = [v0,some (.ref l)])/\Same H4 H5/\H5 D2 = some (.lst (((strikersOf qs n).take j).map fun y=>V.bl (decide (y ∈ hs)))))
     ⟨⟨_,rfl⟩,Same.new hD2,upd_same⟩ (fun j σ H5 _ ⟨_,s5,_⟩=>s5.at p) ?_ ?_
    ·intro j σ H5 v N' hx zq13 hN'
     refine o0_3 zq13 fun zq14 s5 e5=>?_
     refine o1_1 zq14 fun v0 zq15=>?_
     subst zq15
     rw [List.getElem?_map] at hx
     cases hz:(strikersOf qs n)[j]? with
     | none=>rw [hz] at hx; cases hx
     | some y =>
      rw [hz] at hx
      cases hx
      refine g_true ?_
      have hj:=(List.getElem?_eq_some_iff.mp hz).1
      have:=len_strikersOf qs n
      have:=ok.lenq
      refine ex1 rfl (ex1 rfl (inL_str (.inl (SqL.of (s5 _ _ hit4))) ⟨_,e5,?_,hN' _ _ ⟨⟨_,rfl⟩,s5.upd hD2,?_⟩⟩))
      ·rw [List.length_map,List.length_take,sizeLine_eq]; lia
      ·rw [upd_same,take_succ hz,List.map_append]; rfl
    ·intro σ H5 zq16
     refine o0_3 zq16 fun _ s5 e5=>?_
     rw [List.length_map,List.take_length] at e5
     refine ⟨D2,(strikersOf qs n).map fun y=>decide (y ∈ hs),rfl,SqL.of (by rw [e5,List.map_map]; rfl),ex1 rfl ?_⟩
     rw [List.all_map]
     have e6:=s5 _ _ e4
     have hi:=(List.getElem?_eq_some_iff.mp hy).1
     have hf:((ns.take (i + 1)).filter fun n=>(strikersOf qs n).all fun y=>decide (y ∈ hs)) = ((ns.take i).filter fun n=>(strikersOf qs n).all fun y=>decide (y ∈ hs)) ++ (if ((strikersOf qs n).all fun y=>decide (y ∈ hs)) = true then [n] else []):=by
      rw [take_succ hy,List.filter_append,List.filter_cons,List.filter_nil]
     refine ite2 (fun c=>?_) (fun c=>?_)
     ·refine ex1 rfl ⟨_,e6,?_,hN _ _ ⟨⟨_,rfl⟩,(s3.trans (s4.trans s5)).upd hD,?_⟩⟩
      ·rw [List.length_map,sizeLine_eq]
       have:=(List.filter_sublist (l:=ns.take i) (p:=fun n=>(strikersOf qs n).all fun y=>decide (y ∈ hs))).length_le
       rw [List.length_take] at this
       lia
      ·rw [upd_same,hf,if_pos (show ((strikersOf qs n).all fun y=>decide (y ∈ hs)) = true from c),List.map_append]; rfl
     ·refine hN _ _ ⟨⟨_,rfl⟩,s3.trans (s4.trans s5),?_⟩
      rw [hf,if_neg (show ¬ ((strikersOf qs n).all fun y=>decide (y ∈ hs)) = true from c),List.append_nil]; exact e6
  ·intro σ H3 zq17
   refine o0_3 zq17 fun _ s3 e3=>?_
   rw [List.length_map,List.take_length] at e3
   refine k D _ H3 ((s1.trans s2).free hD) ((s1.trans s2).trans s3) (fun n hn=>?_) e3
   rw [List.all_eq_true]
   constructor
   ·intro h y hy
    refine o1_2 ((m1 y).mp (of_decide_eq_true (h y (strk_strikers.mpr hy)))) fun m hm h'=>?_
    exact ⟨m,hm,strk_struck.mp h'⟩
   ·intro h y hy
    refine o1_2 (h y (strk_strikers.mp hy)) fun m hm h'=>?_
    exact decide_eq_true ((m1 y).mpr ⟨m,hm,strk_struck.mpr h'⟩)
end
end Sw
namespace Sw
open PySem L2
theorem tt_join {t:TT} {σ:St} {H:Hp} {Q:Bool->Hp->Prop} (J:Bool->Hp->Prop) (hQ:∀ b H,J b H->Q b H) (h:∀ Q',(∀ b H,J b H->Q' b H)->t σ H Q'):t σ H Q:=h Q hQ
theorem eqv_nil:∀ ds:List PyData,PyData.eqv (.list ds) (.list []) = ds.isEmpty
 | []=>by rw [PyData.eqv,PyData.eqvAll]; rfl
 | _ :: _=>by rw [PyData.eqv,PyData.eqvAll]; rfl
theorem eqv_sd_nil (ss:List Str):PyData.eqv (sd ss) (.list []) = ss.isEmpty:=by
 unfold sd
 rw [eqv_nil]
 cases ss <;> rfl
theorem pl_nil:Pl (.list []):=⟨by simp [PyData.canLay0,PyData.canLayAll0],by simp [PyData.depth,PyData.depthAll]⟩
theorem rp_nil {K:PySem.W.Frag} {H:Hp} {l:Addr} (h:SqL K H l []):Rp K H (.list []) (.ref l):=by
 simp only [Rp]
 exact ⟨l,_,rfl,h,by simp [Rps]⟩
theorem StrkOk.sub {ss:List Str} {ps ps':List PA2} (h:StrkOk ss ps) (s:ps'.Sublist ps):StrkOk ss ps' :=
 ⟨fun q hq=>h.nm q (s.mem hq),(s.map _).nodup h.nd,Nat.le_trans s.length_le h.len⟩
theorem in_pair {K:PySem.W.Frag} {H:Hp} {t l:Addr} {k:Str × Str} {ps:List PA2} {Q:VK} (ht:H t = some (.tup [.str k.1,.str k.2])) (hl:H l = some (.lst (refs ps))) (hp:∀ q ∈ ps,PairIn H q)
  (hk:PySem.PyData.strOk k.1 = true/\PySem.PyData.strOk k.2 = true) (hs:∀ q ∈ ps,PySem.PyData.strOk q.2.1 = true/\PySem.PyData.strOk q.2.2 = true) (q:Q (.bl (decide (k ∈ ps.map fun q=>q.2))) H):rInD K false (.ref t) (.ref l) H Q :=
 ⟨pd k,_,rp_pair ht,.inl (rp_pairs hl hp),⟨lay_pd hk.1 hk.2,by simp [pd,PyData.depth,PyData.depthAll]⟩,lay_pds hs,by rw [if_neg (by decide),any_pairs]; exact q⟩
theorem ne_pair {K:PySem.W.Frag} {H:Hp} {t l:Addr} {k j:Str × Str} {Q:VK} (ht:H t = some (.tup [.str k.1,.str k.2])) (hl:H l = some (.tup [.str j.1,.str j.2])) (hk:PySem.PyData.strOk k.1 = true/\PySem.PyData.strOk k.2 = true) (hj:PySem.PyData.strOk j.1 = true/\PySem.PyData.strOk j.2 = true)
  (q:Q (.bl (!decide (k = j))) H):rNeD K (.ref t) (.ref l) H Q :=
 ⟨pd k,pd j,rp_pair ht,rp_pair hl,⟨lay_pd hk.1 hk.2,by simp [pd,PyData.depth,PyData.depthAll]⟩,⟨lay_pd hj.1 hj.2,by simp [pd,PyData.depth,PyData.depthAll]⟩,by rw [eqv_pd]; exact q⟩
section
variable {P:Program} {w:World} {K:PySem.W.Frag} {mg:Str->Option Value} {base:Heap}
theorem sc_law_near:FnScope ["_law_left_here", "_law_names_here", "_law_strikes_here", "_law_at", "_law_pair"] ["_law_left_here", "_law_names_here", "_law_strikes_here"] (defScope s_law_near):=⟨rfl,rfl,rfl,by decide +kernel,rfl,by decide +kernel,by decide +kernel⟩
noncomputable def sp_near:Sp:=fun vs H Q _=>∃ (p n a:Addr) (c:Int) (ss:List Str) (ps:List PA2),vs = [.ref p,.ref n,.ref a]/\LeftAt H p c/\c<=900000/\H n = some (.lst (ss.map V.str))/\NamesOk ss/\H a = some (.lst (refs ps))/\(∀ q ∈ ps,PairIn H q)/\StrkOk ss ps /\
 ∀ l (ps':List PA2) c' H',Sm [p] H H'->H' l = some (.lst (refs ps'))->(∀ q ∈ ps',PairIn H' q)->StrkOk ss ps'->c'<=c + 10->LeftAt H' p c'->Q (.ref l) H'
set_option maxHeartbeats 4000000 in
theorem ok_law_near (T:Tx K mg):FnOk P w K mg base CX0 3 T.law_near.f T.law_near.fd ["_law_left_here", "_law_names_here", "_law_strikes_here"] sp_near:=by
 have G_law_pick:FnOk P w K mg base CX0 2 T.law_pick.f T.law_pick.fd ["_law_left_here", "_law_many"] sp_pick:=ok_law_pick T
 have sc:=sc_law_near
 refine T.law_near.F.ok sc_law_near (fun vs H Q E h=>?_) (fun cdv A outer s H vs Q E hr h=>?_)
 ·refine o6_2 h fun p n a c ss ps zq18 _=>?_
  try clear h
  subst zq18
  rfl
 ·refine o6_9 h fun p n a c ss ps zq19 hL c1 hn hN ha hP hO q=>?_
  try clear h
  subst zq19
  have lm:(ss.map V.str).length = ss.length:=List.length_map ..
  have rl:(refs ps).length = ps.length:=by unfold refs; rw [List.length_map]
  have nm:∀ x ∈ ss,PySem.PyData.strOk x = true:=fun x hx=>nameB_ok (hN.1 x hx)
  have len200:=hO.len
  have len100:=hN.2.2
  have at1:∀ d:Nat,(d:Int) < (ss.length:Int)->∃ x,x ∈ ss/\atI (ss.map V.str) (d:Int) = some (.str x):=fun d hd=>by
   have hd:d < ss.length:=by lia
   exact ⟨ss[d],List.getElem_mem hd,atI_nat (by rw [List.getElem?_map,List.getElem?_eq_getElem hd]; rfl)⟩
  refine ⟨_,(pss_cons (ps_if (pt_cmpR (o_eqD K hr.units) (pv 1) (pe_lst pa_nil) (nomark _)) (pss_one (ps_ret (pv 2))) pss_nil)
   (pss_cons (ps_if (PW.pt (pw_and (pt_cmpR (o_neD K hr.units) (pv 2) (pe_lst pa_nil) (nomark _)) (pw_and1 (PW.pt (pw_or (pt_cmpR op_gt (pe_bf (cl_len K) T.b_len bt_len (pa_cons (pv 2) pa_nil)) pe_int (nomark _)) (pw_or1 (pt_cmpR op_eq (pe_fn T.law_pick G_law_pick (hr.mono (by decide)) (pa_cons (pv 0) (pa_cons pe_int pa_nil))) pe_int (nomark _)))))))) (pss_cons (ps_set (i:=3) sc.nd rfl (by first | exact Or.inl rfl | exact Or.inr rfl) (pe_fn T.law_pick G_law_pick (hr.mono (by decide)) (pa_cons (pv 0) (pa_cons (pe_bf (cl_len K) T.b_len bt_len (pa_cons (pv 2) pa_nil)) pa_nil))))
   (pss_one (ps_ret (pe_op op_cat (pe_slice (slL K) (pv 2) po_none (po_some (pv 3))) (pe_slice (slL K) (pv 2) (po_some (pe_op op_add (pv 3) pe_int)) po_none))))) pss_nil)
   (pss_cons (ps_set (i:=4) sc.nd rfl (by first | exact Or.inl rfl | exact Or.inr rfl) (pe_tup (pa_cons (pe_ix (ixL K) (pv 1) (pe_fn T.law_pick G_law_pick (hr.mono (by decide)) (pa_cons (pv 0) (pa_cons (pe_bf (cl_len K) T.b_len bt_len (pa_cons (pv 1) pa_nil)) pa_nil))) (fun _ _=>rfl)) (pa_cons (pe_ix (ixL K) (pv 1) (pe_fn T.law_pick G_law_pick (hr.mono (by decide)) (pa_cons (pv 0) (pa_cons (pe_bf (cl_len K) T.b_len bt_len (pa_cons (pv 1) pa_nil)) pa_nil))) (fun _ _=>rfl)) pa_nil))))
   (pss_cons (ps_if (pt_cmpR (o_inD K hr.units) (pv 4) (pv 2) rfl) (pss_one (ps_ret (pe_lc (N':=["_law_one", "_law_pair"]) (cap:=[none,some 4]) (cl:=[("_law_pair",_)]) (cs_mk ⟨⟨rfl,rfl,rfl,rfl⟩,trivial⟩ ⟨rfl,trivial⟩) rfl (piL K (pv 2)) (fun _ _ _ _=>by exact ⟨(pgC 0),(pts_one (pt_cmpR (o_neD K hr.units) (pv 0) (pv 1) (nomark _))),(pv 0)⟩)))) pss_nil)
   (pss_one (ps_ret (pe_op op_cat (pv 2) (pe_lst (pa_cons (pv 4) pa_nil))))))))),?_⟩
  refine ex1 rfl ⟨Nat.zero_le _,fun t0 ht0=>?_⟩
  have u1:=Same.new (o:=.lst []) ht0
  refine ⟨_,_,rp_strs (SqL.of (u1 _ _ hn)),rp_nil (SqL.of upd_same),pl_strs hN.1,pl_nil,ex1 rfl ?_⟩
  rw [eqv_sd_nil]
  have L1:=hL.same u1
  have n1:=u1 _ _ hn
  have a1:=u1 _ _ ha
  have p1:∀ q ∈ ps,PairIn (upd H t0 (.lst [])) q:=fun q hq=>u1 _ _ (hP q hq)
  generalize upd H t0 (.lst []) = H1 at u1 L1 n1 a1 p1 ⊢
  refine ite2 (fun h0=>?_) (fun h0=>?_)
  ·exact ⟨_,rfl,q a ps c H1 u1.sm a1 p1 hO (by lia) L1⟩
  have hpos:0 < ss.length:=by
   cases ss with
   | nil=>exact absurd rfl h0
   | cons=>exact Nat.succ_pos _
  dsimp only [tNext,tSeq,tIfS]
  refine tt_join (t:=tAnd _ (tOr _ _)) (fun b H2=>(∃ c2,Sm [p] H1 H2/\LeftAt H2 p c2/\c2<=c + 1)/\(b = true->0 < ps.length)/\(b = false->ps.length<=149)) ?_ ?_
  ·intro b H2 zq20
   refine o0_3 zq20 fun zq21 hT hF=>?_
   refine o1_3 zq21 fun c2 k2 L2 hc2=>?_
   have n2:=Sm1 k2 n1 (L1.ne n1)
   have a2:=Sm1 k2 a1 (L1.neP a1)
   have p2:∀ q ∈ ps,PairIn H2 q:=fun q hq=>pair_sm (p1 q hq) L1 k2
   have kk:Sm [p] H H2:=u1.sm.trans k2
   cases b with
   | true =>
    refine iteT ?_
    have hT:=hT rfl
    refine ex1 rfl (ex1 rfl (ex2_3 (a:=a) rfl (.inl (SqL.of a2)) (ex3_6 (a:=p) (b:=c2) rfl L2 (by lia) (by rw [rl]; lia) (by rw [rl]; lia) fun d H3 hd k3 L3=>?_)))
    rw [rl] at hd
    have a3:=Sm1 k3 a2 (L2.neP a2)
    have p3:∀ q ∈ ps,PairIn H3 q:=fun q hq=>pair_sm (p2 q hq) L2 k3
    have hcl:d<=(refs ps).length:=by rw [rl]; lia
    have hcl1:d + 1<=(refs ps).length:=by rw [rl]; lia
    refine ex1 rfl (ex1 rfl (ex1 rfl ⟨a,ex1 rfl ⟨SqL.of a3,fun t1 ht1=>?_⟩⟩))
    rw [cut_to hcl]
    have v1:=Same.new (o:=.lst ((refs ps).take d)) ht1
    refine ex1 rfl (ex1 rfl (ex2_3 rfl rfl (ex1 rfl ⟨a,ex1 rfl ⟨SqL.of (v1 _ _ a3),fun t2 ht2=>?_⟩⟩)))
    rw [show ((d:Int) + 1) = ((d + 1:Nat):Int) from by lia,cut_from hcl1]
    have v2:=Same.new (o:=.lst ((refs ps).drop (d + 1))) ht2
    refine ⟨t1,t2,ex2_3 rfl rfl ⟨v2 _ _ upd_same,upd_same,?_,fun row hrow=>?_⟩⟩
    ·rw [List.length_take,List.length_drop,rl,sizeLine_eq]; lia
    have v3:=(v1.trans v2).trans (Same.new (o:=.lst ((refs ps).take d ++ (refs ps).drop (d + 1))) hrow)
    have er:(refs ps).take d ++ (refs ps).drop (d + 1) = refs (ps.eraseIdx d):=by
     unfold refs
     rw [List.eraseIdx_eq_take_drop_succ,List.map_append,List.map_take,List.map_drop]
    have sub:(ps.eraseIdx d).Sublist ps:=List.eraseIdx_sublist ps d
    refine q row (ps.eraseIdx d) _ _ ((kk.trans k3).trans v3.sm) (by rw [upd_same,er]) (fun q hq=>v3 _ _ (p3 q (sub.mem hq))) (hO.sub sub) ?_ (L3.same v3)
    lia
   | false =>
    refine iteF ?_
    have hF:=hF rfl
    have sq:∀ {H3},Sm [p] H2 H3->SqL K H3 n (ss.map V.str):=fun h=>(h.at (by simpa using L2.ne n2)).seqL (SqL.of n2)
    refine ex1 rfl (ex1 rfl (ex1 rfl (ex2_3 (a:=n) rfl (.inl (SqL.of n2)) (ex3_6 (a:=p) rfl L2 (by lia) (by rw [lm]; lia) (by rw [lm]; lia) fun d1 H3 hd1 k3 L3=>?_))))
    rw [lm] at hd1
    refine o1_2 (at1 d1 hd1) fun x hx ex=>?_
    refine ⟨n,_,ex2_3 rfl rfl ⟨sq k3,ex,?_⟩⟩
    refine ex1 rfl (ex1 rfl (ex1 rfl (ex2_3 (a:=n) rfl (.inl (sq k3)) (ex3_6 (a:=p) rfl L3 (by lia) (by rw [lm]; lia) (by rw [lm]; lia) fun d2 H4 hd2 k4 L4=>?_))))
    rw [lm] at hd2
    refine o1_2 (at1 d2 hd2) fun y hy ey=>?_
    have k4:=k3.trans k4
    refine ⟨n,_,ex2_3 rfl rfl ⟨sq k4,ey,by show 2<=sizeLine; decide,fun t ht=>?_⟩⟩
    have v5:=Same.new (o:=.tup [.str x,.str y]) ht
    have e5:(upd H4 t (.tup [.str x,.str y])) t = some (.tup [.str x,.str y]):=upd_same
    have L5:=L4.same v5
    have a5:=v5 _ _ (Sm1 k4 a2 (L2.neP a2))
    have p5:∀ q ∈ ps,PairIn (upd H4 t (.tup [.str x,.str y])) q:=fun q hq=>v5 _ _ (pair_sm (p2 q hq) L2 k4)
    have k5:Sm [p] H (upd H4 t (.tup [.str x,.str y])):=(kk.trans k4).trans v5.sm
    generalize upd H4 t (.tup [.str x,.str y]) = H5 at v5 e5 L5 a5 p5 k5 ⊢
    refine ex1 rfl (ex1 rfl (in_pair (k:=(x,y)) e5 a5 p5 ⟨nm _ hx,nm _ hy⟩ (fun q hq=>⟨nm _ (hO.nm q hq).1,nm _ (hO.nm q hq).2⟩) ⟨_,rfl,?_⟩))
    refine ite2 (fun h6=>?_) (fun h6=>?_)
    ·refine ex1 rfl ⟨a,rfl,⟨_,SqL.of a5⟩,fun D hD=>?_⟩
     refine loop_as (asL (K:=K) (SqL.of a5)) (fun i σ H6=>(∃ v0,σ = [v0,some (.ref t)])/\Same H5 H6/\H6 D = some (.lst (refs ((ps.take i).filter fun q=>!decide (q.2 = (x,y))))))
      ⟨⟨_,rfl⟩,Same.new hD,upd_same⟩ (fun i σ H6 _ ⟨_,s6,_⟩=>s6.at a) ?_ ?_
     ·intro i σ H6 v N hv zq22 hN'
      refine o0_3 zq22 fun zq23 s6 e6=>?_
      refine o1_1 zq23 fun v0 zq24=>?_
      subst zq24
      unfold refs at hv
      rw [List.getElem?_map] at hv
      cases hz:ps[i]? with
      | none=>rw [hz] at hv; cases hv
      | some r =>
       rw [hz] at hv
       cases hv
       have hr:=List.mem_of_getElem? hz
       have hi:=(List.getElem?_eq_some_iff.mp hz).1
       refine ex1 rfl (ex1 rfl (ne_pair (k:=r.2) (j:=(x,y)) (s6 _ _ (p5 r hr)) (s6 _ _ e5) ⟨nm _ (hO.nm r hr).1,nm _ (hO.nm r hr).2⟩ ⟨nm _ hx,nm _ hy⟩ ⟨_,rfl,?_⟩))
       have hf:((ps.take (i + 1)).filter fun q=>!decide (q.2 = (x,y))) = ((ps.take i).filter fun q=>!decide (q.2 = (x,y))) ++ (if (!decide (r.2 = (x,y))) = true then [r] else []):=by
        rw [take_succ hz,List.filter_append,List.filter_cons,List.filter_nil]
       refine ite2 (fun c=>?_) (fun c=>?_)
       ·refine ex1 rfl ⟨_,e6,?_,hN' _ _ ⟨⟨_,rfl⟩,s6.upd hD,?_⟩⟩
        ·unfold refs
         rw [List.length_map,sizeLine_eq]
         have:=(List.filter_sublist (l:=ps.take i) (p:=fun q=>!decide (q.2 = (x,y)))).length_le
         rw [List.length_take] at this
         lia
        ·rw [upd_same,hf,if_pos c]
         unfold refs
         rw [List.map_append]; rfl
       ·refine hN' _ _ ⟨⟨_,rfl⟩,s6,?_⟩
        rw [hf,if_neg c,List.append_nil]; exact e6
     ·intro σ H6 zq25
      refine o0_3 zq25 fun _ s6 e6=>?_
      rw [rl,List.take_length] at e6
      have sub:=List.filter_sublist (l:=ps) (p:=fun q=>!decide (q.2 = (x,y)))
      exact q D _ _ H6 (k5.trans s6.sm) e6 (fun q hq=>s6 _ _ (p5 q (sub.mem hq))) (hO.sub sub) (by lia) (L5.same s6)
    ·have h6':(x,y) ∉ ps.map fun q=>q.2:=by simpa using h6
     refine ex1 rfl (ex1 rfl ⟨by show 1<=sizeLine; decide,fun l1 hl1=>?_⟩)
     have v6:=Same.new (o:=.lst [V.ref t]) hl1
     refine ⟨a,l1,ex2_3 rfl rfl ⟨v6 _ _ a5,upd_same,?_,fun row hrow=>?_⟩⟩
     ·rw [rl,sizeLine_eq]; show ps.length + 1<=_; lia
     have v7:=v6.trans (Same.new (o:=.lst (refs ps ++ [V.ref t])) hrow)
     refine q row (ps ++ [(t,x,y)]) _ _ (k5.trans v7.sm) (by rw [upd_same]; unfold refs; rw [List.map_append]; rfl) (fun q hq=>?_) ⟨fun q hq=>?_,?_,?_⟩ ?_ (L5.same v7)
     ·rcases List.mem_append.mp hq with z | z
      ·exact v7 _ _ (p5 q z)
      ·rw [List.mem_singleton.mp z]; exact v7 _ _ e5
     ·rcases List.mem_append.mp hq with z | z
      ·exact hO.nm q z
      ·rw [List.mem_singleton.mp z]; exact ⟨hx,hy⟩
     ·rw [List.map_append,List.nodup_append]
      refine ⟨hO.nd,by simp,fun a ha b hb e=>?_⟩
      rw [List.map_cons,List.map_nil,List.mem_singleton] at hb
      rw [e,hb] at ha
      exact h6' ha
     ·rw [List.length_append]; show ps.length + 1<=_; lia
     ·lia
  ·intro Q' hQ'
   refine ex1 rfl ⟨Nat.zero_le _,fun t1 ht1=>?_⟩
   have v1:=Same.new (o:=.lst []) ht1
   refine ⟨_,_,rp_pairs (v1 _ _ a1) (fun q hq=>v1 _ _ (p1 q hq)),rp_nil (SqL.of upd_same),pl_pairs fun q hq=>⟨hN.1 _ (hO.nm q hq).1,hN.1 _ (hO.nm q hq).2⟩,pl_nil,ex1 rfl ?_⟩
   rw [eqv_nil]
   have L2:=L1.same v1
   have a2:=v1 _ _ a1
   generalize upd H1 t1 (.lst []) = H2 at v1 L2 a2 ⊢
   refine ite2 (fun h1=>?_) (fun h1=>?_)
   ·have hps:0 < ps.length:=by
     cases ps with
     | nil=>exact absurd h1 (by decide)
     | cons=>exact Nat.succ_pos _
    refine ex1 rfl (ex2_3 (a:=a) rfl (.inl (SqL.of a2)) (ex2_3 rfl rfl (ex1 rfl ?_)))
    rw [rl]
    refine ite2 (fun h2=>?_) (fun h2=>?_)
    ·exact hQ' _ _ ⟨⟨c,v1.sm,L2,by lia⟩,fun _=>hps,fun z=>Bool.noConfusion z⟩
    ·have h2:¬ (149:Int) < (ps.length:Int):=fun z=>h2 (decide_eq_true z)
     refine ex1 rfl (ex3_6 (a:=p) rfl L2 (by lia) (by decide) (by decide) fun d H3 hd k3 L3=>⟨rfl,_,rfl,?_⟩)
     exact hQ' _ _ ⟨⟨_,v1.sm.trans k3,L3,by lia⟩,fun _=>hps,fun _=>by lia⟩
   ·refine hQ' _ _ ⟨⟨c,v1.sm,L2,by lia⟩,fun z=>Bool.noConfusion z,fun _=>?_⟩
    cases ps with
    | nil=>exact Nat.zero_le _
    | cons=>exact absurd rfl h1
end
end Sw
namespace Sw
open PySem L2
theorem eqvAll_strs:∀ a b:List Str,PyData.eqvAll (a.map PyData.str) (b.map PyData.str) = decide (a = b)
 | [],[]=>by simp [PyData.eqvAll]
 | [],_ :: _=>by simp [PyData.eqvAll]
 | _ :: _,[]=>by simp [PyData.eqvAll]
 | x :: a,y :: b=>by
  rw [List.map_cons,List.map_cons,PyData.eqvAll,eqvAll_strs a b,PyData.eqv]
  by_cases h1:x = y
  ·by_cases h2:a = b
   ·rw [decide_eq_true h2,h1,h2]; simp
   ·rw [decide_eq_false h2]; simp [h2]
  ·simp [h1]
theorem eqv_sd (a b:List Str):PyData.eqv (sd a) (sd b) = decide (a = b):=by
 unfold sd
 rw [PyData.eqv,eqvAll_strs]
noncomputable def WholeP (ns:List Str) (qs:List PA2) (ss:List Str):Prop:=StandP qs ss/\∀ n ∈ ns,n ∈ ss ↔ KeptP qs ss n
noncomputable def OutrightP (ns:List Str) (qs:List PA2) (ss:List Str):Prop:=QuietP qs ss/\∀ n ∈ ns,n ∈ ss\/∃ m ∈ ss,Strk qs m n
noncomputable def sp_truthN (K:PySem.W.Frag) (C:Addr) (f:List Str->List PA2->List Str->Prop):Sp:=fun vs H Q _=>∃ (x a:Addr) (ss ns:List Str) (qs:List PA2),vs = [.ref x,.ref a]/\WebAt C H x ns qs/\Sqs K H a (ss.map V.str)/\(∀ n ∈ ss,n ∈ ns)/\ss.length<=100/\ss.Nodup/\(∀ n ∈ ns,nameB n = true) /\
 ∀ (b:Bool) H',(b = true ↔ f ns qs ss)->Same H H'->Q (.bl b) H'
section
variable {P:Program} {w:World} {K:PySem.W.Frag} {mg:Str->Option Value} {base:Heap}
theorem sc_is_whole:FnScope ["web", "some"] ["web", "some"] (defScope s_is_whole):=⟨rfl,rfl,rfl,by decide +kernel,rfl,by decide +kernel,by decide +kernel⟩
theorem ok_is_whole (T:Tx K mg):FnOk P w K mg base CX0 6 T.is_whole.f T.is_whole.fd ["web", "some"] (sp_truthN K T.CWeb WholeP):=by
 have G_stands:FnOk P w K mg base CX0 5 T.stands.f T.stands.fd ["web", "some"] (sp_truth K T.CWeb fun _=>StandP):=ok_stands T
 have G_kept_by:FnOk P w K mg base CX0 4 T.kept_by.f T.kept_by.fd ["web", "some"] (sp_kept_by K T.CWeb):=ok_kept_by T
 have sc:=sc_is_whole
 refine T.is_whole.F.ok sc_is_whole (fun vs H Q E h=>?_) (fun cdv A outer s H vs Q E hr h=>?_)
 ·refine o5_2 h fun x a ss ns qs zq26 _=>?_
  try clear h
  subst zq26
  rfl
 ·refine o5_8 h fun x a ss ns qs zq27 hW hS hM hl nd nm k=>?_
  try clear h
  subst zq27
  refine ⟨_,(pss_one (ps_ret (pe_and (pe_fn T.stands G_stands (hr.mono (by decide)) (pa_cons (pv 0) (pa_cons (pv 1) pa_nil))) (pe_one (pe_cmpR (o_eqD K hr.units) (pe_fn T.kept_by G_kept_by (hr.mono (by decide)) (pa_cons (pv 0) (pa_cons (pv 1) pa_nil))) (pe_bf (cl_sortQ K) T.b_sorted bt_sorted (pa_cons (pv 1) pa_nil)) (nomark _)))))),?_⟩
  refine ex1 rfl (ex1 rfl (ex5_6 (a:=x) (b:=a) (c:=ss) (d:=ns) (e:=qs) rfl hW hS hM hl fun b H1 hb s1=>⟨b,rfl,?_⟩))
  obtain ⟨ok,_⟩:=(id hW)
  refine ite2 (fun c=>?_) (fun c=>?_)
  ·refine ⟨_,rfl,_,rfl,x,a,ss,ns,qs,rfl,hW.same s1,(s1.at a).seq hS,hM,hl,fun l f H2 hl2 s2 hf e2=>?_⟩
   refine ⟨_,rfl,a,ss,rfl,((s1.trans s2).at a).seq hS,fun l3 ss' hl3 pm srt=>?_⟩
   have s3:=Same.new (o:=.lst (ss'.map V.str)) hl3
   have hsub:(ns.filter f).Sublist ns:=List.filter_sublist
   refine ⟨_,_,rp_strs (SqL.of (s3 _ _ e2)),rp_strs (SqL.of upd_same),pl_strs fun y hy=>nm y (hsub.mem hy),pl_strs fun y hy=>nm y (hM y (pm.mem_iff.mp hy)),?_⟩
   rw [eqv_sd]
   refine k _ _ ?_ ((s1.trans s2).trans s3)
   rw [decide_eq_true_iff]
   constructor
   ·intro e
    refine ⟨hb.mp c,fun n hn=>?_⟩
    rw [<-hf n hn,<-pm.mem_iff,<-e,List.mem_filter]
    exact ⟨fun h=>h.2,fun h=>⟨hn,h⟩⟩
   ·intro zq28
    refine o0_2 zq28 fun _ h=>?_
    refine sorted_one (ok.srt.sublist hsub) srt ?_
    refine (List.perm_ext_iff_of_nodup (hsub.nodup ok.nd) (pm.nodup_iff.mpr nd)).mpr fun y=>?_
    rw [List.mem_filter,pm.mem_iff]
    constructor
    ·intro zq29
     refine o0_2 zq29 fun hy hfy=>?_
     exact (h y hy).mpr ((hf y hy).mp hfy)
    ·intro hy
     exact ⟨hM y hy,(hf y (hM y hy)).mpr ((h y (hM y hy)).mp hy)⟩
  ·exact k false H1 ⟨fun z=>(by cases z),fun h=>absurd (hb.mpr h.1) c⟩ s1
theorem sc_is_outright:FnScope ["web", "some", "hit"] ["web", "some"] (defScope s_is_outright):=⟨rfl,rfl,rfl,by decide +kernel,rfl,by decide +kernel,by decide +kernel⟩
theorem ok_is_outright (T:Tx K mg):FnOk P w K mg base CX0 5 T.is_outright.f T.is_outright.fd ["web", "some"] (sp_truth K T.CWeb OutrightP):=by
 have G_struck_by_any:FnOk P w K mg base CX0 3 T.struck_by_any.f T.struck_by_any.fd ["web", "some"] (sp_any K T.CWeb struckOf):=ok_struck_by_any T
 have G_is_quiet:FnOk P w K mg base CX0 4 T.is_quiet.f T.is_quiet.fd ["web", "some"] (sp_bool K T.CWeb fun _=>quietB):=ok_is_quiet T
 have G_Web_all_names:FnOk P w K mg base CX0 1 T.mWeb_all_names.f T.mWeb_all_names.fd ["self"] (sp_all_names T.CWeb):=ok_Web_all_names T
 have sc:=sc_is_outright
 refine T.is_outright.F.ok sc_is_outright (fun vs H Q E h=>?_) (fun cdv A outer s H vs Q E hr h=>?_)
 ·refine o5_2 h fun x a ss ns qs zq30 _=>?_
  try clear h
  subst zq30
  rfl
 ·refine o5_6 h fun x a ss ns qs zq31 hW hS hM hl k=>?_
  try clear h
  subst zq31
  refine ⟨_,(pss_cons (ps_set (i:=2) sc.nd rfl (by first | exact Or.inl rfl | exact Or.inr rfl) (pe_fn T.struck_by_any G_struck_by_any (hr.mono (by decide)) (pa_cons (pv 0) (pa_cons (pv 1) pa_nil))))
   (pss_one (ps_ret (pe_and (pe_fn T.is_quiet G_is_quiet (hr.mono (by decide)) (pa_cons (pv 0) (pa_cons (pv 1) pa_nil))) (pe_one (pe_bf (cl_all K) T.b_all bt_all (pa_cons (pe_lc (N':=["name", "some", "hit"]) (cap:=[none,some 1,some 2]) (cl:=[("some",_),("hit",_)]) (cs_mk ⟨⟨rfl,rfl,rfl,rfl⟩,⟨⟨rfl,rfl,rfl,rfl⟩,trivial⟩⟩ ⟨rfl,⟨rfl,trivial⟩⟩) rfl (piL K (pe_meth0 (pv 0) T.clWeb T.mWeb_all_names.m G_Web_all_names (hr.mono (by decide)) T.mWeb_all_names.b .nil pass0)) (fun _ _ _ _=>by exact ⟨(pgC 0),pts_nil,(pe_or (pe_cmpR (o_inL K) (pv 0) (pv 1) rfl) (pe_one (pe_cmpR (o_inL K) (pv 0) (pv 2) rfl)))⟩)) pa_nil))))))),?_⟩
  refine ex1 rfl (ex1 rfl (ex5_5 (a:=x) (b:=a) (c:=ss) (d:=ns) (e:=qs) rfl hW hS hM fun l hs H1 hl0 s1 e1 m1 _ _ _=>?_))
  dsimp only [tSeq,tAsg,gName,tRet,tCB,tCons,tNil]
  have W1:=hW.same s1
  refine ex1 rfl (ex1 rfl (ex5_6 (a:=x) (b:=a) (c:=ss) (d:=ns) (e:=qs) rfl W1 ((s1.at a).seq hS) hM hl fun H2 s2=>⟨quietB qs ss,rfl,?_⟩))
  have W2:=W1.same s2
  have S2:=((s1.trans s2).at a).seq hS
  refine ite2 (fun c=>?_) (fun c=>?_)
  ·obtain ⟨ok,dx,a1,b,c',d,kc,kd,e2,_⟩:=(id W2)
   refine ⟨_,rfl,x,dx,_,rfl,e2,rfl,x,ns,qs,rfl,W2,fun l2 hl2=>?_⟩
   have s3:=Same.new (o:=.lst (ns.map V.str)) hl2
   have f3:(upd H2 l2 (.lst (ns.map V.str))) l2 = some (.lst (ns.map V.str)):=upd_same
   generalize upd H2 l2 (.lst (ns.map V.str)) = H3 at s3 f3 ⊢
   have hit3:=s3 _ _ (s2 _ _ e1)
   have S3:=(s3.at a).seq S2
   refine ⟨l2,rfl,⟨_,SqL.of f3⟩,fun D hD=>?_⟩
   have hlen:=ok.len
   refine loop_as (asL (K:=K) (SqL.of f3)) (fun i σ H4=>(∃ v0,σ = [v0,some (.ref a),some (.ref l)])/\Same H3 H4/\H4 D = some (.lst ((ns.take i).map fun n=>V.bl (decide (n ∈ ss) || decide (n ∈ hs)))))
    ⟨⟨_,rfl⟩,Same.new hD,upd_same⟩ (fun i σ H1 _ ⟨_,s1,_⟩=>s1.at l2) ?_ ?_
   ·intro i σ H4 v N hx zq32 hN
    refine o0_3 zq32 fun zq33 s4 e4=>?_
    refine o1_1 zq33 fun v0 zq34=>?_
    subst zq34
    rw [List.getElem?_map] at hx
    cases hy:ns[i]? with
    | none=>rw [hy] at hx; cases hx
    | some n =>
     rw [hy] at hx
     cases hx
     refine g_true ?_
     have hi:=(List.getElem?_eq_some_iff.mp hy).1
     refine ⟨_,rfl,_,rfl,inL_str ((s4.at a).seq S3) ⟨_,rfl,?_⟩⟩
     have fin:∀ bb:Bool,bb = (decide (n ∈ ss) || decide (n ∈ hs))->∃ ys,H4 D = some (.lst ys)/\ys.length < sizeLine/\N ([v0,some (.ref a),some (.ref l)].set 0 (some (.str n))) (upd H4 D (.lst (ys ++ [.bl bb]))):=fun bb e=>by
      refine ⟨_,e4,?_,hN _ _ ⟨⟨_,rfl⟩,s4.upd hD,?_⟩⟩
      ·rw [List.length_map,List.length_take,sizeLine_eq]; lia
      ·rw [upd_same,take_succ hy,List.map_append,e]; rfl
     refine ite2 (fun c1=>?_) (fun c1=>?_)
     ·exact fin true (by rw [c1]; rfl)
     ·refine ⟨_,rfl,_,rfl,inL_str (.inl (SqL.of (s4 _ _ hit3))) (fin _ ?_)⟩
      rw [Bool.eq_false_iff.mpr c1,Bool.false_or]
   ·intro σ H4 zq35
    refine o0_3 zq35 fun _ s4 e4=>?_
    rw [List.length_map,List.take_length] at e4
    refine ⟨D,ns.map fun n=>(decide (n ∈ ss) || decide (n ∈ hs)),rfl,SqL.of (by rw [e4,List.map_map]; rfl),?_⟩
    refine k _ _ ?_ (((s1.trans s2).trans s3).trans s4)
    rw [List.all_map,List.all_eq_true]
    have m1':∀ n,n ∈ hs ↔ ∃ m ∈ ss,Strk qs m n:=fun n=>by
     rw [m1]
     exact ⟨fun ⟨m,h1,h2⟩=>⟨m,h1,strk_struck.mp h2⟩,fun ⟨m,h1,h2⟩=>⟨m,h1,strk_struck.mpr h2⟩⟩
    constructor
    ·intro h
     refine ⟨quietB_iff.mp c,fun n hn=>?_⟩
     have h:=h n hn
     rcases Bool.or_eq_true _ _ ▸ (show (decide (n ∈ ss) || decide (n ∈ hs)) = true from h) with z | z
     ·exact .inl (of_decide_eq_true z)
     ·exact .inr ((m1' n).mp (of_decide_eq_true z))
    ·intro zq36 n hn
     refine o0_2 zq36 fun _ h=>?_
     show (decide (n ∈ ss) || decide (n ∈ hs)) = true
     rw [Bool.or_eq_true]
     exact (h n hn).imp decide_eq_true fun z=>decide_eq_true ((m1' n).mpr z)
  ·exact k false H2 ⟨fun z=>(by cases z),fun h=>absurd (quietB_iff.mpr h.1) c⟩ (s1.trans s2)
end
end Sw
namespace Sw
open PySem L2
theorem nat_eq (a b:Nat):decide (V.int (a:Int) = V.int (b:Int)) = true ↔ ∀ j,a.testBit j = true ↔ b.testBit j = true:=by
 rw [decide_eq_true_iff]
 constructor
 ·intro e j
  injection e with e
  rw [Int.ofNat.inj e]
 ·intro h
  rw [Nat.eq_of_testBit_eq fun j=>Bool.eq_iff_iff.mpr (h j)]
theorem nat_all (a n:Nat):decide (V.int (a:Int) = V.int (((2 ^ n:Nat):Int) - 1)) = true ↔ ∀ j,a.testBit j = true ↔ j < n:=by
 have h:((2 ^ n:Nat):Int) - 1 = ((2 ^ n - 1:Nat):Int):=by
  have:=Nat.two_pow_pos n
  lia
 rw [h,nat_eq]
 constructor
 ·intro h j
  rw [h j,Nat.testBit_two_pow_sub_one,decide_eq_true_iff]
 ·intro h j
  rw [h j,Nat.testBit_two_pow_sub_one,decide_eq_true_iff]
section
variable {P:Program} {w:World} {K:PySem.W.Frag} {mg:Str->Option Value} {base:Heap}
noncomputable def sp_ltruth (f:List Str->List Nat->List Nat->Nat->Prop):Sp:=fun vs H Q _=>∃ (p v:Addr) (m:Nat) (ns:List Str) (ks:List (Str × Str)) (A B:List Nat),vs = [.ref v,.int (m:Int)]/\ViewAt H p v ns ks A B/\ns.length<=100 /\
 ∀ b:Bool,(b = true ↔ f ns A B m)->Q (.bl b) H
theorem sc_law_is_whole:FnScope ["_law_view", "_law_mask"] ["_law_view", "_law_mask"] (defScope s_law_is_whole):=⟨rfl,rfl,rfl,by decide +kernel,rfl,by decide +kernel,by decide +kernel⟩
theorem ok_law_is_whole (T:Tx K mg):FnOk P w K mg base CX0 3 T.law_is_whole.f T.law_is_whole.fd ["_law_view", "_law_mask"] (sp_ltruth fun ns A B m=>QuietB B m/\∀ j,m.testBit j = true ↔ KeptB ns.length A B m j):=by
 have G_law_is_quiet:FnOk P w K mg base CX0 2 T.law_is_quiet.f T.law_is_quiet.fd ["_law_view", "_law_mask"] sp_lquiet:=ok_law_is_quiet T
 have G_law_kept:FnOk P w K mg base CX0 2 T.law_kept.f T.law_kept.fd ["_law_view", "_law_mask"] sp_kept:=ok_law_kept T
 have sc:=sc_law_is_whole
 refine T.law_is_whole.F.ok sc_law_is_whole (fun vs H Q E h=>?_) (fun cdv A outer s H vs Q E hr h=>?_)
 ·refine o7_2 h fun p n a ss ps A B zq37 _=>?_
  try clear h
  subst zq37
  rfl
 ·refine o7_4 h fun p v m ns ks A B zq38 hV ln q=>?_
  try clear h
  subst zq38
  refine ⟨_,(pss_one (ps_ret (pe_and (pe_fn T.law_is_quiet G_law_is_quiet (hr.mono (by decide)) (pa_cons (pv 0) (pa_cons (pv 1) pa_nil))) (pe_one (pe_cmpR op_eq (pv 1) (pe_fn T.law_kept G_law_kept (hr.mono (by decide)) (pa_cons (pv 0) (pa_cons (pv 1) pa_nil))) (nomark _)))))),?_⟩
  refine ⟨_,rfl,_,rfl,p,v,m,ns,ks,A,B,rfl,hV,ln,fun b hb=>⟨b,rfl,?_⟩⟩
  refine ite2 (fun c=>?_) (fun c=>?_)
  ·refine ex1 rfl (ex1 rfl (ex1 rfl (ex7_4 (a:=p) (b:=v) (c:=m) (d:=ns) (e:=ks) (f:=A) (g:=B) rfl hV ln fun kb hk=>?_)))
   refine ⟨rfl,q _ ?_⟩
   rw [nat_eq]
   exact ⟨fun h=>⟨hb.mp c,fun j=>(h j).trans (hk j)⟩,fun h j=>(h.2 j).trans (hk j).symm⟩
  ·exact q false ⟨fun z=>(by cases z),fun h=>absurd (hb.mpr h.1) c⟩
theorem sc_law_is_outright:FnScope ["_law_view", "_law_mask"] ["_law_view", "_law_mask"] (defScope s_law_is_outright):=⟨rfl,rfl,rfl,by decide +kernel,rfl,by decide +kernel,by decide +kernel⟩
theorem ok_law_is_outright (T:Tx K mg):FnOk P w K mg base CX0 3 T.law_is_outright.f T.law_is_outright.fd ["_law_view", "_law_mask"] (sp_ltruth fun ns A B m=>QuietB B m/\∀ j,(HitB B m j\/m.testBit j = true) ↔ j < ns.length):=by
 have G_law_is_quiet:FnOk P w K mg base CX0 2 T.law_is_quiet.f T.law_is_quiet.fd ["_law_view", "_law_mask"] sp_lquiet:=ok_law_is_quiet T
 have G_law_hit:FnOk P w K mg base CX0 1 T.law_hit.f T.law_hit.fd ["_law_view", "_law_mask"] sp_hit:=ok_law_hit T
 have sc:=sc_law_is_outright
 refine T.law_is_outright.F.ok sc_law_is_outright (fun vs H Q E h=>?_) (fun cdv A outer s H vs Q E hr h=>?_)
 ·refine o7_2 h fun p n a ss ps A B zq39 _=>?_
  try clear h
  subst zq39
  rfl
 ·refine o7_4 h fun p v m ns ks A B zq40 hV ln q=>?_
  try clear h
  subst zq40
  refine ⟨_,(pss_one (ps_ret (pe_and (pe_fn T.law_is_quiet G_law_is_quiet (hr.mono (by decide)) (pa_cons (pv 0) (pa_cons (pv 1) pa_nil))) (pe_one (pe_cmpR op_eq (pe_op op_or (pe_fn T.law_hit G_law_hit (hr.mono (by decide)) (pa_cons (pv 0) (pa_cons (pv 1) pa_nil))) (pv 1)) (pe_op op_sub (pe_op op_shl pe_int (pe_bf (cl_len K) T.b_len bt_len (pa_cons (pe_ix (ixL K) (pv 0) pe_int (fun _ _=>rfl)) pa_nil))) pe_int) (nomark _)))))),?_⟩
  refine ⟨_,rfl,_,rfl,p,v,m,ns,ks,A,B,rfl,hV,ln,fun b hb=>⟨b,rfl,?_⟩⟩
  refine o3_5 hV.ex fun va vs vt f1 f2 f3 f4 _=>?_
  refine ite2 (fun c=>?_) (fun c=>?_)
  ·refine ex1 rfl (ex1 rfl (ex7_4 (a:=p) (b:=v) (c:=m) (d:=ns) (e:=ks) (f:=A) (g:=B) rfl hV ln fun hit hhit=>?_))
   refine ⟨_,rfl,_,_,rfl,rfl,?_⟩
   refine ⟨_,rfl,v,_,_,_,rfl,rfl,SqL.of f1,rfl,va,_,rfl,.inl (SqL.of f2),_,_,rfl,rfl,⟨by lia,by rw [List.length_map]; lia,by decide⟩,?_⟩
   refine ⟨_,_,rfl,rfl,rfl,q _ ?_⟩
   rw [List.length_map,shl1]
   show decide (V.int (Builtin.bitOr (hit:Int) (m:Int)) = V.int (((2 ^ ns.length:Nat):Int) - 1)) = true ↔ _
   rw [bor,nat_all]
   have e:∀ j,(hit ||| m).testBit j = true ↔ (HitB B m j\/m.testBit j = true):=fun j=>by
    rw [Nat.testBit_or,Bool.or_eq_true,hhit j]
   exact ⟨fun h=>⟨hb.mp c,fun j=>(e j).symm.trans (h j)⟩,fun h j=>(e j).trans (h.2 j)⟩
  ·exact q false ⟨fun z=>(by cases z),fun h=>absurd (hb.mpr h.1) c⟩
end
end Sw
namespace Sw
open PySem L2
theorem mem_bit {ns rs:List Str} {m j:Nat} {y:Str} (nd:ns.Nodup) (pr:rs.Perm (setOf ns m)) (hj:ns[j]? = some y):y ∈ rs ↔ m.testBit j = true:=by
 rw [pr.mem_iff,mem_setOf]
 constructor
 ·intro zq41
  refine o1_2 zq41 fun k hk ek=>?_
  have h1:=(List.getElem?_eq_some_iff.mp hj).1
  have:k = j:=((List.getElem?_inj h1 nd).mp (hj.trans ek.symm)).symm
  rw [<-this]; exact hk
 ·intro h
  exact ⟨j,h,hj⟩
theorem keptP_iff {ns rs:List Str} {ps qs:List PA2} {A B:List Nat} {m:Nat} (MA:MB ns ((ps.map fun q=>q.2).map fun k=>(k.2,k.1)) A) (M:MB ns (ps.map fun q=>q.2) B) (pq:qs.Perm ps) (pr:rs.Perm (setOf ns m)) (hin:∀ x y,Strk ps x y->x ∈ ns) {j:Nat} {y:Str} (hj:ns[j]? = some y) :
  KeptP qs rs y ↔ KeptB ns.length A B m j:=by
 rw [kept_iff MA M pr hin hj]
 constructor
 ·intro h x hx
  refine o1_2 (h x ((strk_perm pq _ _).mpr hx)) fun z hz hs=>?_
  exact ⟨z,hz,(strk_perm pq _ _).mp hs⟩
 ·intro h x hx
  refine o1_2 (h x ((strk_perm pq _ _).mp hx)) fun z hz hs=>?_
  exact ⟨z,hz,(strk_perm pq _ _).mpr hs⟩
theorem whole_iff {ns rs:List Str} {ps qs:List PA2} {A B:List Nat} {m:Nat} (MA:MB ns ((ps.map fun q=>q.2).map fun k=>(k.2,k.1)) A) (M:MB ns (ps.map fun q=>q.2) B) (pq:qs.Perm ps) (pr:rs.Perm (setOf ns m)) (lo:Low ns.length m) (hin:∀ x y,Strk ps x y->x ∈ ns) (nd:ns.Nodup) :
  WholeP ns qs rs ↔ (QuietB B m/\∀ j,m.testBit j = true ↔ KeptB ns.length A B m j):=by
 constructor
 ·intro zq42
  refine o0_2 zq42 fun zq43 h2=>?_
  refine o0_2 zq43 fun h1 _=>?_
  refine ⟨(quietP_iff M pq pr).mp h1,fun j=>⟨fun hj=>?_,fun hj=>?_⟩⟩
  ·have hy:ns[j]? = some (ns[j]'(lo j hj)):=List.getElem?_eq_getElem (lo j hj)
   exact (keptP_iff MA M pq pr hin hy).mp ((h2 _ (List.mem_of_getElem? hy)).mp ((mem_bit nd pr hy).mpr hj))
  ·have hy:ns[j]? = some (ns[j]'hj.1):=List.getElem?_eq_getElem hj.1
   exact (mem_bit nd pr hy).mp ((h2 _ (List.mem_of_getElem? hy)).mpr ((keptP_iff MA M pq pr hin hy).mpr hj))
 ·intro zq44
  refine o0_2 zq44 fun h1 h2=>?_
  refine ⟨⟨(quietP_iff M pq pr).mpr h1,(back_iff2 MA M pq pr lo hin).mpr fun j hj=>(h2 j).mp hj⟩,fun n hn=>?_⟩
  obtain ⟨j,hj⟩:=List.mem_iff_getElem?.mp hn
  rw [mem_bit nd pr hj,keptP_iff MA M pq pr hin hj]
  exact h2 j
theorem outright_iff {ns rs:List Str} {ps qs:List PA2} {B:List Nat} {m:Nat} (M:MB ns (ps.map fun q=>q.2) B) (pq:qs.Perm ps) (pr:rs.Perm (setOf ns m)) (lo:Low ns.length m) (nd:ns.Nodup) :
  OutrightP ns qs rs ↔ (QuietB B m/\∀ j,(HitB B m j\/m.testBit j = true) ↔ j < ns.length):=by
 have hh:∀ {j:Nat} {y:Str},ns[j]? = some y->((y ∈ rs\/∃ z ∈ rs,Strk qs z y) ↔ (HitB B m j\/m.testBit j = true)):=fun hy=>by
  rw [mem_bit nd pr hy,hit_iff M pr hy]
  constructor
  ·rintro (h | ⟨z,hz,hs⟩)
   ·exact .inr h
   ·exact .inl ⟨z,hz,(strk_perm pq _ _).mp hs⟩
  ·rintro (⟨z,hz,hs⟩ | h)
   ·exact .inr ⟨z,hz,(strk_perm pq _ _).mpr hs⟩
   ·exact .inl h
 constructor
 ·intro zq45
  refine o0_2 zq45 fun h1 h2=>?_
  refine ⟨(quietP_iff M pq pr).mp h1,fun j=>⟨?_,fun hj=>?_⟩⟩
  ·rintro (⟨k,_,hb⟩ | h)
   ·refine o2_2 (bit_ends M hb) fun _ y _ ey=>?_
    exact (List.getElem?_eq_some_iff.mp ey).1
   ·exact lo j h
  ·have hy:ns[j]? = some ns[j]:=List.getElem?_eq_getElem hj
   exact (hh hy).mp (h2 _ (List.mem_of_getElem? hy))
 ·intro zq46
  refine o0_2 zq46 fun h1 h2=>?_
  refine ⟨(quietP_iff M pq pr).mpr h1,fun n hn=>?_⟩
  obtain ⟨j,hj⟩:=List.mem_iff_getElem?.mp hn
  exact (hh hj).mpr ((h2 j).mpr (List.getElem?_eq_some_iff.mp hj).1)
end Sw
namespace Sw
open PySem L2
structure RecAt (C:Addr) (H:Hp) (p t x v a:Addr) (ss ns:List Str) (qs ps:List PA2) (A B:List Nat):Prop where
 tup:H t = some (.tup [.ref x,.ref v,.ref a])
 web:WebAt C H x ns qs
 view:ViewAt H p v ns (ps.map fun q=>q.2) A B
 at_a:H a = some (.lst (refs ps))
 pin:∀ q ∈ ps,PairIn H q
 ok_a:StrkOk ss ps
 pq:qs.Perm ps
 srq:qs.Pairwise leP
theorem RecAt.sm {C:Addr} {H H':Hp} {p t x v a:Addr} {c:Int} {ss ns:List Str} {qs ps:List PA2} {A B:List Nat} (h:RecAt C H p t x v a ss ns qs ps A B) (L:LeftAt H p c) (s:Sm [p] H H'):RecAt C H' p t x v a ss ns qs ps A B:=by
 refine o2_2 (id L) fun y z e0 _=>?_
 exact ⟨Sm1 s h.tup (ne_of h.tup e0 (by intro z; cases z)),h.web.sm L s,h.view.sm s,Sm1 s h.at_a (L.neP h.at_a),fun q hq=>pair_sm (h.pin q hq) L s,h.ok_a,h.pq,h.srq⟩
theorem RecAt.same {C:Addr} {H H':Hp} {p t x v a:Addr} {ss ns:List Str} {qs ps:List PA2} {A B:List Nat} (h:RecAt C H p t x v a ss ns qs ps A B) (s:Same H H'):RecAt C H' p t x v a ss ns qs ps A B :=
 ⟨s _ _ h.tup,h.web.same s,h.view.same s,s _ _ h.at_a,same_pairs s h.pin,h.ok_a,h.pq,h.srq⟩
theorem RecAt.hin {C:Addr} {H:Hp} {p t x v a:Addr} {ss ns:List Str} {qs ps:List PA2} {A B:List Nat} (h:RecAt C H p t x v a ss ns qs ps A B) (pm:ns.Perm ss):∀ y z,Strk ps y z->y ∈ ns:=fun y z ⟨q,hq,e1,_⟩=>by
 rw [<-e1]
 exact pm.mem_iff.mpr (h.ok_a.nm q hq).1
end Sw
namespace Sw
open PySem L2
section
variable {P:Program} {w:World} {K:PySem.W.Frag} {mg:Str->Option Value} {base:Heap}
theorem sc_law:FnScope ["_law_script", "_law_k", "_law_left_here", "_law_names_here", "_law_strikes_here", "_law_view", "_law_masks_here", "_law_near_here", "_law_webs", "_law_mask", "_law_handed_here", "_law_kept_here", "_law_web", "_law_own", "_law_pairs"] ["_law_script"] (defScope s_law):=⟨rfl,rfl,rfl,by decide +kernel,rfl,by decide +kernel,by decide +kernel⟩
noncomputable def sp_law (K:PySem.W.Frag):Sp:=fun vs H Q _=>∃ (u:Addr) (xs:List Int),vs = [.ref u]/\SqL K H u (xs.map V.int)/\xs.length<=63/\∀ H',Q (.bl true) H'
set_option maxHeartbeats 4000000 in
theorem ok_law (T:Tx K mg) {f:Addr} {fd:FuncData} (F:Fun K "law" "law" s_law f fd):FnOk P w K mg base CX0 7 f fd ["_law_script"] (sp_law K):=by
 have G_law_drawn:FnOk P w K mg base CX0 4 T.law_drawn.f T.law_drawn.fd ["_law_script", "_law_k"] (sp_drawn K):=ok_law_drawn T
 have G_law_near:FnOk P w K mg base CX0 3 T.law_near.f T.law_near.fd ["_law_left_here", "_law_names_here", "_law_strikes_here"] sp_near:=ok_law_near T
 have G_law_masks:FnOk P w K mg base CX0 1 T.law_masks.f T.law_masks.fd ["_law_names_here", "_law_strikes_here"] sp_masks:=ok_law_masks T
 have G_law_set_of:FnOk P w K mg base CX0 1 T.law_set_of.f T.law_set_of.fd ["_law_view", "_law_mask"] sp_set_of:=ok_law_set_of T
 have G_law_handed:FnOk P w K mg base CX0 3 T.law_handed.f T.law_handed.fd ["_law_left_here", "_law_some_here"] sp_handed:=ok_law_handed T
 have G_law_says:FnOk P w K mg base CX0 1 T.law_says.f T.law_says.fd ["_law_found", "_law_due"] sp_says:=ok_law_says T
 have G_law_is_whole:FnOk P w K mg base CX0 3 T.law_is_whole.f T.law_is_whole.fd ["_law_view", "_law_mask"] (sp_ltruth fun ns A B m=>QuietB B m/\∀ j,m.testBit j = true ↔ KeptB ns.length A B m j):=ok_law_is_whole T
 have G_law_is_outright:FnOk P w K mg base CX0 3 T.law_is_outright.f T.law_is_outright.fd ["_law_view", "_law_mask"] (sp_ltruth fun ns A B m=>QuietB B m/\∀ j,(HitB B m j\/m.testBit j = true) ↔ j < ns.length):=ok_law_is_outright T
 have G_is_whole:FnOk P w K mg base CX0 6 T.is_whole.f T.is_whole.fd ["web", "some"] (sp_truthN K T.CWeb WholeP):=ok_is_whole T
 have G_is_outright:FnOk P w K mg base CX0 5 T.is_outright.f T.is_outright.fd ["web", "some"] (sp_truth K T.CWeb OutrightP):=ok_is_outright T
 have G_Web___init__:FnOk P w K mg base CX0 3 T.fWeb___init__ T.fdWeb___init__ ["self", "names", "strikes"] (sp_Web_init K T.CWeb):=ok_Web_init T
 have G_Web_all_names:FnOk P w K mg base CX0 1 T.mWeb_all_names.f T.mWeb_all_names.fd ["self"] (sp_all_names T.CWeb):=ok_Web_all_names T
 have G_Web_all_strikes:FnOk P w K mg base CX0 1 T.mWeb_all_strikes.f T.mWeb_all_strikes.fd ["self"] (sp_all_strikes T.CWeb):=ok_Web_all_strikes T
 have sc:=sc_law
 refine F.ok sc_law (fun vs H Q E h=>?_) (fun cdv A outer s H vs Q E hr h=>?_)
 ·refine o2_2 h fun u xs zq1 _=>?_
  try clear h
  subst zq1
  rfl
 ·refine o2_4 h fun u xs zq2 hS hlen q=>?_
  try clear h
  subst zq2
  refine ⟨_,(pss_cons (ps_for PassesOwn.never rfl (piR1 T.b_range (pa_cons (pe_bf (call_max2 rfl) T.b_max bt_max (pa_cons pe_int (pa_cons (pe_bf (call_min2 rfl) T.b_min bt_min (pa_cons (pe_bf (cl_len K) T.b_len bt_len (pa_cons (pv 0) pa_nil)) (pa_cons pe_int pa_nil))) pa_nil))) pa_nil)) (pg_name (i:=1) sc.nd rfl (by first | exact Or.inl rfl | exact Or.inr rfl))
   (pss_cons (ps_asg (pe_fn T.law_drawn G_law_drawn (hr.mono (by decide)) (pa_cons (pv 0) (pa_cons (pv 1) pa_nil))) (pgT K (n:=5) (pgs_cons (pg_name (i:=2) sc.nd rfl (by first | exact Or.inl rfl | exact Or.inr rfl)) (pgs_cons (pg_name (i:=3) sc.nd rfl (by first | exact Or.inl rfl | exact Or.inr rfl)) (pgs_cons (pg_name (i:=4) sc.nd rfl (by first | exact Or.inl rfl | exact Or.inr rfl)) (pgs_cons (pg_name (i:=5) sc.nd rfl (by first | exact Or.inl rfl | exact Or.inr rfl)) (pgs_cons (pg_name (i:=6) sc.nd rfl (by first | exact Or.inl rfl | exact Or.inr rfl)) pgs_nil)))))))
   (pss_cons (ps_set (i:=7) sc.nd rfl (by first | exact Or.inl rfl | exact Or.inr rfl) (pe_fn T.law_near G_law_near (hr.mono (by decide)) (pa_cons (pv 2) (pa_cons (pv 3) (pa_cons (pv 4) pa_nil)))))
   (pss_cons (ps_set (i:=8) sc.nd rfl (by first | exact Or.inl rfl | exact Or.inr rfl) (pe_lst (pa_cons (pe_tup (pa_cons (pe_make T.mkWeb G_Web___init__ (hr.mono (by decide)) rfl T.mgWeb T.bWeb___init__ .nil pass0 (pa_cons (pv 3) (pa_cons (pv 4) pa_nil))) (pa_cons (pv 5) (pa_cons (pv 4) pa_nil)))) (pa_cons (pe_tup (pa_cons (pe_make T.mkWeb G_Web___init__ (hr.mono (by decide)) rfl T.mgWeb T.bWeb___init__ .nil pass0 (pa_cons (pv 3) (pa_cons (pv 7) pa_nil))) (pa_cons (pe_fn T.law_masks G_law_masks (hr.mono (by decide)) (pa_cons (pv 3) (pa_cons (pv 7) pa_nil))) (pa_cons (pv 7) pa_nil)))) pa_nil))))
   (pss_cons (ps_for PassesOwn.never rfl (piL K (pv 6)) (pg_name (i:=9) sc.nd rfl (by first | exact Or.inl rfl | exact Or.inr rfl))
   (pss_cons (ps_set (i:=10) sc.nd rfl (by first | exact Or.inl rfl | exact Or.inr rfl) (pe_fn T.law_handed G_law_handed (hr.mono (by decide)) (pa_cons (pv 2) (pa_cons (pe_fn T.law_set_of G_law_set_of (hr.mono (by decide)) (pa_cons (pv 5) (pa_cons (pv 9) pa_nil))) pa_nil))))
   (pss_cons (ps_set (i:=11) sc.nd rfl (by first | exact Or.inl rfl | exact Or.inr rfl) (pe_bt (cl_list K) T.b_list bt_list (pa_cons (pv 10) pa_nil)))
   (pss_one (ps_for PassesOwn.never rfl (piL K (pv 8)) (pgT K (n:=3) (pgs_cons (pg_name (i:=12) sc.nd rfl (by first | exact Or.inl rfl | exact Or.inr rfl)) (pgs_cons (pg_name (i:=13) sc.nd rfl (by first | exact Or.inl rfl | exact Or.inr rfl)) (pgs_cons (pg_name (i:=14) sc.nd rfl (by first | exact Or.inl rfl | exact Or.inr rfl)) pgs_nil))))
   (pss_cons (ps_if (pt_not (pt_val (pe_fn T.law_says G_law_says (hr.mono (by decide)) (pa_cons (pe_fn T.is_whole G_is_whole (hr.mono (by decide)) (pa_cons (pv 12) (pa_cons (pv 10) pa_nil))) (pa_cons (pe_fn T.law_is_whole G_law_is_whole (hr.mono (by decide)) (pa_cons (pv 13) (pa_cons (pv 9) pa_nil))) pa_nil))))) (pss_one (ps_ret pe_bl)) pss_nil)
   (pss_one (ps_if (PW.pt (pw_or (pt_not (pt_val (pe_fn T.law_says G_law_says (hr.mono (by decide)) (pa_cons (pe_fn T.is_outright G_is_outright (hr.mono (by decide)) (pa_cons (pv 12) (pa_cons (pv 10) pa_nil))) (pa_cons (pe_fn T.law_is_outright G_law_is_outright (hr.mono (by decide)) (pa_cons (pv 13) (pa_cons (pv 9) pa_nil))) pa_nil))))) (pw_or1 (pt_cmpR (o_neD K hr.units) (pe_bt (cl_list K) T.b_list bt_list (pa_cons (pv 10) pa_nil)) (pv 11) (nomark _))))) (pss_one (ps_ret pe_bl)) pss_nil))))))))
   (pss_one (ps_for PassesOwn.never rfl (piL K (pv 8)) (pgT K (n:=3) (pgs_cons (pg_name (i:=12) sc.nd rfl (by first | exact Or.inl rfl | exact Or.inr rfl)) (pgs_cons (pg_name (i:=13) sc.nd rfl (by first | exact Or.inl rfl | exact Or.inr rfl)) (pgs_cons (pg_name (i:=14) sc.nd rfl (by first | exact Or.inl rfl | exact Or.inr rfl)) pgs_nil))))
   (pss_one (ps_if (PW.pt (pw_or (pt_cmpR (o_neD K hr.units) (pe_meth0 (pv 12) T.clWeb T.mWeb_all_names.m G_Web_all_names (hr.mono (by decide)) T.mWeb_all_names.b .nil pass0) (pe_ix (ixL K) (pv 13) pe_int (fun _ _=>rfl)) (nomark _)) (pw_or1 (pt_cmpR (o_neD K hr.units) (pe_meth0 (pv 12) T.clWeb T.mWeb_all_strikes.m G_Web_all_strikes (hr.mono (by decide)) T.mWeb_all_strikes.b .nil pass0) (pe_bf (cl_sortP K) T.b_sorted bt_sorted (pa_cons (pv 14) pa_nil)) (nomark _))))) (pss_one (ps_ret pe_bl)) pss_nil)))))))))
   (pss_one (ps_ret pe_bl))),?_⟩
  refine ⟨_,rfl,u,_,rfl,.inl hS,_,_,rfl,_,_,rfl,_,rfl,?_⟩
  have hz:∀ l:Int,∃ z:Nat,(if (if (10:Int) < l then 10 else l) > 4 then (if (10:Int) < l then 10 else l) else 4) = (z:Int)/\z<=10:=fun l=>by
   by_cases h1:(10:Int) < l
   ·rw [if_pos h1]; exact ⟨10,by decide,by decide⟩
   ·rw [if_neg h1]
    by_cases h2:l > 4
    ·rw [if_pos h2]; exact ⟨l.toNat,by lia,by lia⟩
    ·rw [if_neg h2]; exact ⟨4,by decide,by decide⟩
  obtain ⟨z,ez,hz⟩:=hz ((xs.map V.int).length:Int)
  rw [ez]
  refine ⟨by lia,by lia,?_⟩
  rw [Int.toNat_natCast]
  refine for_rangeG (fun i σ H1=>(∃ v1 v2 v3 v4 v5 v6 v7 v8 v9 v10 v11 v12 v13 v14,σ = [some (.ref u),v1,v2,v3,v4,v5,v6,v7,v8,v9,v10,v11,v12,v13,v14])/\Same H H1) ?_ ?_ ?_
  ·exact ⟨⟨_,_,_,_,_,_,_,_,_,_,_,_,_,_,rfl⟩,fun b o e=>e⟩
  ·intro i σ H1 hi zq3 D1 hD1 _
   refine o0_2 zq3 fun zq4 s1=>?_
   obtain ⟨v1,v2,v3,v4,v5,v6,v7,v8,v9,v10,v11,v12,v13,v14,zq5⟩:=zq4
   subst zq5
   rw [Int.zero_add]
   refine g_seq fun N1 hN1=>?_
   refine ex1 rfl (ex1 rfl (ex3_4 (a:=u) (b:=xs) (c:=i) rfl ((s1.at u).seqL hS) (by lia) fun t p n a v m ss ps ns A B ms c H2 s2 hp et D2=>?_))
   refine ⟨t,_,rfl,SqT.of et,rfl,_,_,rfl,_,_,rfl,_,_,rfl,_,_,rfl,_,_,rfl,rfl,?_⟩
   refine hN1 _ _ (seq_gen fun N2 hN2=>?_)
   have few:=D2.few
   refine ⟨_,rfl,_,rfl,_,rfl,p,n,a,c,ss,ps,rfl,D2.left,by lia,D2.at_n,D2.ok_n,D2.at_a,D2.pin,D2.ok_a,fun a' ps' c' H3 k3 e3 pin3 O3 hc3 L3=>?_⟩
   have n3:=Sm1 k3 D2.at_n (D2.left.ne D2.at_n)
   have a3:=Sm1 k3 D2.at_a (D2.left.neP D2.at_a)
   have p3:∀ q ∈ ps,PairIn H3 q:=fun q hq=>pair_sm (D2.pin q hq) D2.left k3
   have V3:=D2.view.sm k3
   have m3:=Sm1 k3 D2.at_m D2.ne_m
   refine hN2 _ _ (seq_gen fun N3 hN3=>?_)
   refine ⟨_,rfl,_,rfl,?_⟩
   intro x dx nx ndx nex
   have s0:Same H3 (upd (upd H3 dx (.own x)) x (.ins T.CWeb dx [])):=fun b o e=>by
    rw [upd_ne (ne_of_none e nx),upd_ne (ne_of_none e ndx)]
    exact e
   refine ex6_8 (a:=x) (b:=dx) (c:=n) (d:=ss) (e:=a) (f:=ps) rfl upd_same (s0 _ _ n3) D2.ok_n (s0 _ _ a3) (same_pairs s0 p3) D2.ok_a fun ns' qs H4 pn srn pq srq k4 W4=>⟨rfl,?_⟩
   have en:ns' = ns:=sorted_one srn D2.srt (pn.trans D2.perm.symm)
   subst en
   have s34:Same H3 H4:=fun b o e=>k4 b o (s0 b o e) (by simpa using ne_of_none e nx)
   refine ⟨_,rfl,_,rfl,by show 3<=sizeLine; decide,fun t1 ht1=>?_⟩
   have s5:=Same.new (o:=.tup [.ref x,.ref v,.ref a]) ht1
   have s35:=s34.trans s5
   have R5:RecAt T.CWeb (upd H4 t1 (.tup [.ref x,.ref v,.ref a])) p t1 x v a ss ns' qs ps A B :=
    ⟨upd_same,W4.same s5,V3.same s35,s35 _ _ a3,same_pairs s35 p3,D2.ok_a,pq,srq⟩
   generalize upd H4 t1 (.tup [.ref x,.ref v,.ref a]) = H5 at s5 s35 R5 ⊢
   refine ⟨_,rfl,_,rfl,?_⟩
   intro x2 dx2 nx2 ndx2 nex2
   have s0:Same H5 (upd (upd H5 dx2 (.own x2)) x2 (.ins T.CWeb dx2 [])):=fun b o e=>by
    rw [upd_ne (ne_of_none e nx2),upd_ne (ne_of_none e ndx2)]
    exact e
   refine ex6_8 (a:=x2) (b:=dx2) (c:=n) (d:=ss) (e:=a') (f:=ps') rfl upd_same (s0 _ _ (s35 _ _ n3)) D2.ok_n (s0 _ _ (s35 _ _ e3)) (same_pairs s0 (same_pairs s35 pin3)) O3 fun ns2 qs2 H6 pn2 srn2 pq2 srq2 k6 W6=>⟨rfl,?_⟩
   have en:ns2 = ns':=sorted_one srn2 D2.srt (pn2.trans D2.perm.symm)
   subst en
   have s56:Same H5 H6:=fun b o e=>k6 b o (s0 b o e) (by simpa using ne_of_none e nx2)
   have s36:=s35.trans s56
   refine ⟨_,rfl,_,rfl,n,a',ss,ps',rfl,s36 _ _ n3,D2.ok_n,s36 _ _ e3,same_pairs s36 pin3,O3,fun w2 ns3 A2 B2 H7 hw2 s7 pm3 srt3 V7=>?_⟩
   have en:ns3 = ns2:=sorted_one srt3 D2.srt (pm3.trans D2.perm.symm)
   subst en
   have eL3:=L3.get
   have V7:=V7 p _ (s36 _ _ eL3)
   have s37:=s36.trans s7
   refine ⟨_,rfl,by show 3<=sizeLine; decide,fun t2 ht2=>?_⟩
   have s8:=Same.new (o:=.tup [.ref x2,.ref w2,.ref a']) ht2
   have s38:=s37.trans s8
   have R8:RecAt T.CWeb (upd H7 t2 (.tup [.ref x2,.ref w2,.ref a'])) p t2 x2 w2 a' ss ns3 qs2 ps' A2 B2 :=
    ⟨upd_same,(W6.same s7).same s8,V7.same s8,s38 _ _ e3,same_pairs s38 pin3,O3,pq2,srq2⟩
   have R8':=R5.same ((s56.trans s7).trans s8)
   generalize upd H7 t2 (.tup [.ref x2,.ref w2,.ref a']) = H8 at s8 s38 R8 R8' ⊢
   refine ⟨by show 2<=sizeLine; decide,fun wl hwl=>?_⟩
   have s9:=Same.new (o:=.lst [.ref t1,.ref t2]) hwl
   have s39:=s38.trans s9
   have e9:(upd H8 wl (.lst [.ref t1,.ref t2])) wl = some (.lst [.ref t1,.ref t2]):=upd_same
   have R9:=R8'.same s9
   have R9':=R8.same s9
   generalize upd H8 wl (.lst [.ref t1,.ref t2]) = H9 at s9 s39 e9 R9 R9' ⊢
   have L9:=L3.same s39
   have V9:=V3.same s39
   have m9:=s39 _ _ m3
   have lenn:ns3.length<=30:=by rw [D2.perm.length_eq]; exact D2.len_n
   have nmp:m ∉ [p]:=by simpa using D2.ne_m
   have nmn:∀ y ∈ ns3,nameB y = true:=fun y hy=>D2.ok_n.1 y (D2.perm.mem_iff.mp hy)
   have ndn:ns3.Nodup:=D2.perm.nodup_iff.mpr D2.ok_n.2.1
   have nwp:wl ≠ p:=by
    refine o2_2 (id L9) fun _ _ e _=>?_
    exact ne_of e9 e (by intro z; cases z)
   have both:∀ {H'} ,RecAt T.CWeb H' p t1 x v a ss ns3 qs ps A B->RecAt T.CWeb H' p t2 x2 w2 a' ss ns3 qs2 ps' A2 B2->∀ (j:Nat) (y:V),[V.ref t1,.ref t2][j]? = some y->∃ t x v a qs ps A B,y = .ref t/\RecAt T.CWeb H' p t x v a ss ns3 qs ps A B:=fun r1 r2 j y hy=>by
    match j,hy with
    | 0,hy=>cases hy; exact ⟨_,_,_,_,_,_,_,_,rfl,r1⟩
    | 1,hy=>cases hy; exact ⟨_,_,_,_,_,_,_,_,rfl,r2⟩
   refine hN3 _ _ (seq_gen fun N4 hN4=>?_)
   refine ⟨_,rfl,m,rfl,⟨_,SqL.of m9⟩,for_asG (asL (SqL.of m9)) (fun j σ H5=>(∃ v9 v10 v11 v12 v13 v14,σ = [some (.ref u),some (.int (i:Int)),some (.ref p),some (.ref n),some (.ref a),some (.ref v),some (.ref m),some (.ref a'),some (.ref wl),v9,v10,v11,v12,v13,v14])/\Sm [p] H9 H5/\LeftAt H5 p (c' + 3 * j)) ?_ ?_ ?_ ?_⟩
   ·exact ⟨⟨_,_,_,_,_,_,rfl⟩,Sm.refl _ _,L9.cast (by lia)⟩
   ·intro j σ H5 _ zq6
    refine o0_3 zq6 fun _ k5 _=>?_
    exact k5.at nmp
   ·intro j σ H5 y hy zq7 D2' hD2 _
    refine o0_3 zq7 fun zq8 k5 L5=>?_
    refine o6_1 zq8 fun v9 v10 v11 v12 v13 v14 zq9=>?_
    subst zq9
    rw [List.getElem?_map] at hy
    obtain ⟨mk,ho,rfl⟩:∃ mk,ms[j]? = some mk/\natV mk = y:=by
     cases e:ms[j]? with
     | none=>rw [e] at hy; cases hy
     | some y=>rw [e] at hy; exact ⟨y,rfl,by injection hy⟩
    have hj:j < ms.length:=(List.getElem?_eq_some_iff.mp ho).1
    have hj64:=D2.len_m
    have lo:=D2.low mk (List.mem_of_getElem? ho)
    have V5:=V9.sm k5
    have lso:(setOf ns3 mk).length<=30:=Nat.le_trans (setOf_sub ns3 mk).length_le lenn
    have mso:∀ y ∈ setOf ns3 mk,y ∈ ns3:=fun y hy=>(setOf_sub ns3 mk).mem hy
    refine g_seq fun M1 hM1=>?_
    refine ex1 rfl (ex1 rfl (ex1 rfl (ex7_4 (a:=p) (b:=v) (c:=mk) (d:=ns3) (f:=A) (g:=B) rfl V5 (by lia) fun l H6 hl s6 e6=>?_)))
    have L6:=L5.same s6
    refine ex4_6 (a:=p) (b:=l) (d:=setOf ns3 mk) rfl L6 (by lia) e6 (by lia) fun h rs H7 hh k7 eh pr L7=>?_
    have lrs:rs.length<=30:=by rw [pr.length_eq]; exact lso
    have mrs:∀ y ∈ rs,y ∈ ns3:=fun y hy=>mso y (pr.mem_iff.mp hy)
    have ndr:rs.Nodup:=pr.nodup_iff.mpr ((setOf_sub ns3 mk).nodup ndn)
    have hsq:Sqs K H7 h (rs.map V.str):=eh.imp SqL.of SqT.of
    have k57:Sm [p] H5 H7:=s6.sm.trans k7
    refine hM1 _ _ (seq_gen fun M2 hM2=>?_)
    refine ⟨_,rfl,h,_,rfl,hsq,fun kp hkp=>?_⟩
    have s8:=Same.new (o:=.lst (rs.map V.str)) hkp
    have k98:Sm [p] H9 (upd H7 kp (.lst (rs.map V.str))):=(k5.trans k57).trans s8.sm
    have e8:(upd H7 kp (.lst (rs.map V.str))) kp = some (.lst (rs.map V.str)):=upd_same
    have L8:=L7.same s8
    have hsq8:Sqs K (upd H7 kp (.lst (rs.map V.str))) h (rs.map V.str):=(s8.at h).seq hsq
    generalize upd H7 kp (.lst (rs.map V.str)) = H8 at s8 e8 L8 hsq8 k98 ⊢
    have w8:=Sm1 k98 e9 nwp
    have R8:=R9.sm L9 k98
    have R8':=R9'.sm L9 k98
    refine hM2 _ _ ?_
    refine ⟨_,rfl,wl,rfl,⟨_,SqL.of w8⟩,for_asG (asL (SqL.of w8)) (fun j σ H10=>(∃ v12 v13 v14,σ = [some (.ref u),some (.int (i:Int)),some (.ref p),some (.ref n),some (.ref a),some (.ref v),some (.ref m),some (.ref a'),some (.ref wl),some (natV mk),some (.ref h),some (.ref kp),v12,v13,v14])/\Same H8 H10) ?_ ?_ ?_ ?_⟩
    ·exact ⟨⟨_,_,_,rfl⟩,fun b o e=>e⟩
    ·intro j σ H10 _ zq10
     refine o0_2 zq10 fun _ s10=>?_
     exact s10.at wl
    ·intro j2 σ H10 y hy zq11 D3 hD3 _
     refine o0_2 zq11 fun zq12 s10=>?_
     refine o3_1 zq12 fun v12 v13 v14 zq13=>?_
     subst zq13
     refine o8_2 (both (R8.same s10) (R8'.same s10) j2 y hy) fun tt xx vv aa qq pp AA BB zq14 R=>?_
     subst zq14
     have hin:=R.hin D2.perm
     refine ⟨tt,_,rfl,SqT.of R.tup,rfl,_,_,rfl,_,_,rfl,_,_,rfl,rfl,?_⟩
     refine seq_gen fun O1 hO1=>?_
     refine ⟨_,rfl,_,rfl,xx,h,rs,ns3,qq,rfl,R.web,(s10.at h).seq hsq8,mrs,by lia,ndr,nmn,fun b1 H11 hb1 s11=>?_⟩
     have R1:=R.same s11
     refine ⟨_,rfl,_,rfl,p,vv,mk,ns3,_,AA,BB,rfl,R1.view,by lia,fun b2 hb2=>?_⟩
     have e1:b1 = b2:=by rw [Bool.eq_iff_iff,hb1,hb2]; exact whole_iff R.view.mA R.view.mB R.pq pr lo hin ndn
     refine ⟨b1,b2,rfl,_,rfl,?_⟩
     rw [decide_eq_true e1]
     refine iteF (hO1 _ _ ?_)
     have S11:=((s10.trans s11).at h).seq hsq8
     refine ex1 rfl (ex1 rfl (ex5_6 (a:=xx) (b:=h) (c:=rs) (d:=ns3) (e:=qq) rfl R1.web S11 mrs (by lia) fun b3 H12 hb3 s12=>?_))
     have R2:=R1.same s12
     refine ⟨_,rfl,_,rfl,p,vv,mk,ns3,_,AA,BB,rfl,R2.view,by lia,fun b4 hb4=>?_⟩
     have e2:b3 = b4:=by rw [Bool.eq_iff_iff,hb3,hb4]; exact outright_iff R.view.mB R.pq pr lo ndn
     refine ⟨b3,b4,rfl,_,rfl,?_⟩
     rw [decide_eq_true e2]
     refine iteF ?_
     refine ⟨_,rfl,h,_,rfl,(s12.at h).seq S11,fun z hz=>?_⟩
     have s13:=Same.new (o:=.lst (rs.map V.str)) hz
     have st:=(s10.trans s11).trans (s12.trans s13)
     refine ⟨_,rfl,ne_same (rp_strs (SqL.of upd_same)) (rp_strs (SqL.of (st _ _ e8))) (pl_strs fun y hy=>nmn y (mrs y hy)) ⟨_,rfl,?_⟩⟩
     refine iteF (hD3 _ _ ⟨⟨_,_,_,rfl⟩,st⟩)
    ·intro σ H10 zq15
     refine o0_2 zq15 fun zq16 s10=>?_
     refine o3_1 zq16 fun v12 v13 v14 zq17=>?_
     subst zq17
     exact hD2 _ _ ⟨⟨_,_,_,_,_,_,rfl⟩,k98.trans s10.sm,(L8.same s10).cast (by lia)⟩
   ·intro σ H5 zq18
    refine o0_3 zq18 fun zq19 k5 L5=>?_
    refine o6_1 zq19 fun v9 v10 v11 v12 v13 v14 zq20=>?_
    subst zq20
    refine hN4 _ _ ?_
    have w5:=Sm1 k5 e9 nwp
    have R5:=R9.sm L9 k5
    have R5':=R9'.sm L9 k5
    refine ⟨_,rfl,wl,rfl,⟨_,SqL.of w5⟩,for_asG (asL (SqL.of w5)) (fun j σ H10=>(∃ v9 v10 v11 v12 v13 v14,σ = [some (.ref u),some (.int (i:Int)),some (.ref p),some (.ref n),some (.ref a),some (.ref v),some (.ref m),some (.ref a'),some (.ref wl),v9,v10,v11,v12,v13,v14])/\Same H5 H10) ?_ ?_ ?_ ?_⟩
    ·exact ⟨⟨_,_,_,_,_,_,rfl⟩,fun b o e=>e⟩
    ·intro j σ H10 _ zq21
     refine o0_2 zq21 fun _ s10=>?_
     exact s10.at wl
    ·intro j2 σ H10 y hy zq22 D3 hD3 _
     refine o0_2 zq22 fun zq23 s10=>?_
     refine o6_1 zq23 fun v9 v10 v11 v12 v13 v14 zq24=>?_
     subst zq24
     refine o8_2 (both (R5.same s10) (R5'.same s10) j2 y hy) fun tt xx vv aa qq pp AA BB zq25 R=>?_
     subst zq25
     refine ⟨tt,_,rfl,SqT.of R.tup,rfl,_,_,rfl,_,_,rfl,_,_,rfl,rfl,?_⟩
     obtain ⟨ok,dx',a',b',c',d',kc,kd,e1,_⟩:=(id R.web)
     refine o3_5 R.view.ex fun va vs vt f1 f2 f3 f4 _=>?_
     refine ⟨_,rfl,xx,dx',_,rfl,e1,rfl,xx,ns3,qq,rfl,R.web,fun l hl=>?_⟩
     have s6:=Same.new (o:=.lst (ns3.map V.str)) hl
     refine ⟨_,rfl,vv,_,_,_,rfl,rfl,SqL.of (s6 _ _ f1),rfl,ne_same (rp_strs (SqL.of upd_same)) (rp_strs (SqL.of (s6 _ _ f2))) (pl_strs nmn) ⟨_,rfl,?_⟩⟩
     refine iteF ?_
     have R6:=R.same s6
     refine ⟨_,rfl,xx,dx',_,rfl,s6 _ _ e1,rfl,xx,ns3,qq,rfl,R6.web,fun l2 hl2=>?_⟩
     have s7':=Same.new (o:=.lst (refs qq)) hl2
     have s7:=s6.trans s7'
     have R7:=R6.same s7'
     refine ⟨_,rfl,aa,pp,rfl,SqL.of R7.at_a,R7.pin,fun l3 ps2 hl3 pp2 srp=>?_⟩
     have s8:=Same.new (o:=.lst (refs ps2)) hl3
     have ek:(qq.map fun q=>q.2) = ps2.map fun q=>q.2:=sortedP_one R.srq srp (R.pq.trans pp2.symm)
     have ed:(qq.map fun q=>pd q.2) = ps2.map fun q=>pd q.2:=by
      have:=congrArg (List.map pd) ek
      rwa [List.map_map,List.map_map] at this
     refine ne_same (d:=.list (qq.map fun q=>pd q.2)) (rp_pairs (s8 _ _ upd_same) fun q hq=>s8 _ _ (R7.pin q (R.pq.mem_iff.mp hq))) ?_ (pl_pairs fun q hq=>?_) ⟨_,rfl,?_⟩
     ·rw [ed]
      exact rp_pairs upd_same fun q hq=>s8 _ _ (R7.pin q (pp2.mem_iff.mp hq))
     ·refine o0_2 (ok.mem q hq) fun h1 h2=>?_
      exact ⟨nmn _ h1,nmn _ h2⟩
     ·refine iteF (hD3 _ _ ⟨⟨_,_,_,_,_,_,rfl⟩,s10.trans (s7.trans s8)⟩)
    ·intro σ H10 zq26
     refine o0_2 zq26 fun zq27 s10=>?_
     refine o6_1 zq27 fun v9 v10 v11 v12 v13 v14 zq28=>?_
     subst zq28
     refine hD1 _ _ ⟨⟨_,_,_,_,_,_,_,_,_,_,_,_,_,_,rfl⟩,fun b o e=>?_⟩
     have nb:b ∉ [p]:=by simpa using ne_of_none (s1 b o e) hp
     exact s10 _ _ (k5 b o (s39 b o (k3 b o (s2 b o (s1 b o e)) nb)) nb)
  ·rintro σ H1 _
   exact q H1
end
end Sw
namespace Sw
open PySem L2
section
variable {K:PySem.W.Frag} {h:Heap} {mg:Str->Option Value}
noncomputable def fn_mk {x:Str} {st:Stmt} {ps:List Str} {f:Addr} {oc:Value} {od an:Option Addr} {osl:Array (Option Value)} {kV doc pm cdv ct:Value} (X:K.In h) (G:h.Ns mainGlobals mg) (a:PySem.W.nsIn K mainGlobals x = some (some (.ref f)))
  (l:K.lookup f = some ⟨oc,od,.func (PySem.W.fnOf x x (defArgs st) (defBody st) (defScope st) .none kV doc pm an cdv ct),osl⟩) (c:PySem.W.codeIn K cdv x = true) (k:PySem.W.keepIn K (.ref f) = true)
  (hb:∀ (kV doc pm:Value) (an:Option Addr) (cdv ct:Value) (us:List Value),us.length = ps.length->bindArgs (PySem.W.fnOf x x (defArgs st) (defBody st) (defScope st) .none kV doc pm an cdv ct) ⟨us,[]⟩ = pure (ps.zip us)):Fn K mg x st ps :=
 ⟨f,_,fun_mk l c k,(fun_mk l c k).binds hb,PySem.W.mg_of X G a⟩
noncomputable def mt_mk {C:Addr} {x q:Str} {st:Stmt} {ps:List Str} {f:Addr} {oc:Value} {od an:Option Addr} {osl:Array (Option Value)} {kV doc pm cdv ct:Value} (a:PySem.W.findIn K (.ref C) x = some (some (.ref f))) (i:PySem.W.isFn K (.ref f) = true)
  (l:K.lookup f = some ⟨oc,od,.func (PySem.W.fnOf x q (defArgs st) (defBody st) (defScope st) .none kV doc pm an cdv ct),osl⟩) (c:PySem.W.codeIn K cdv q = true) (k:PySem.W.keepIn K (.ref f) = true)
  (hb:∀ (kV doc pm:Value) (an:Option Addr) (cdv ct:Value) (us:List Value),us.length = ps.length->bindArgs (PySem.W.fnOf x q (defArgs st) (defBody st) (defScope st) .none kV doc pm an cdv ct) ⟨us,[]⟩ = pure (ps.zip us)):Mt K C x q st ps :=
 ⟨f,_,fun_mk l c k,(fun_mk l c k).binds hb,⟨a,i,k⟩⟩
theorem str_mk {x z:Str} {v:Value} (X:K.In h) (G:h.Ns mainGlobals mg) (a:PySem.W.nsIn K mainGlobals x = some (some v)) (e:∃ t,v = .str z t):∃ t,mg x = some (.str z t):=by
 obtain ⟨t,rfl⟩:=e
 exact ⟨t,PySem.W.mg_of X G a⟩
theorem int_mk {x:Str} {z:Int} {v:Value} (X:K.In h) (G:h.Ns mainGlobals mg) (a:PySem.W.nsIn K mainGlobals x = some (some v)) (e:∃ t,v = .int z t):∃ t,mg x = some (.int z t):=by
 obtain ⟨t,rfl⟩:=e
 exact ⟨t,PySem.W.mg_of X G a⟩
theorem len1 {us:List Value} (h:us.length = 1):∃ a,us = [a]:=List.length_eq_one_iff.mp h
theorem len2 {us:List Value} (h:us.length = 2):∃ a b,us = [a,b]:=by
 cases us with
 | nil=>cases h
 | cons a r=>obtain ⟨b,rfl⟩:=len1 (Nat.succ.inj h); exact ⟨a,b,rfl⟩
theorem len3 {us:List Value} (h:us.length = 3):∃ a b c,us = [a,b,c]:=by
 cases us with
 | nil=>cases h
 | cons a r=>obtain ⟨b,c,rfl⟩:=len2 (Nat.succ.inj h); exact ⟨a,b,c,rfl⟩
theorem noattr_mk {C:Addr} {f:Str} (h:PySem.W.findIn K (.ref C) f = some none):NoAttr K C f:=h
end
theorem all_mk {l:PySem.W.OpenLaw} {w:World} {K:PySem.W.Frag} {h:Heap} {mg:Str->Option Value} {fa f:Addr} {oc:Value} {od an:Option Addr} {osl:Array (Option Value)} {kV doc pm cdv ct:Value} (X:K.In h) (G:h.Ns mainGlobals mg) (hfa:mg "law" = some (.ref fa))
  (T:Tx K mg) (a:PySem.W.nsIn K mainGlobals "law" = some (some (.ref f))) (lk:K.lookup f = some ⟨oc,od,.func (PySem.W.fnOf "law" "law" (defArgs s_law) (defBody s_law) (defScope s_law) .none kV doc pm an cdv ct),osl⟩) (c:PySem.W.codeIn K cdv "law" = true) (k:PySem.W.keepIn K (.ref f) = true) :
  ∃ fd:FuncData,(∀ (s:Shared) (v:Value),BindsTo s fd ⟨[v],[]⟩ [("_law_script",v)])/\∀ base:Heap,K.In base->base.Ns mainGlobals mg->FnOk l.prog w K mg base CX0 7 fa fd ["_law_script"] (sp_law K):=by
 have e:=hfa.symm.trans (PySem.W.mg_of X G a)
 cases e
 exact ⟨PySem.W.fnOf "law" "law" (defArgs s_law) (defBody s_law) (defScope s_law) .none kV doc pm an cdv ct,fun s v=>.of_eq rfl,fun base _ _=>ok_law T (fun_mk lk c k)⟩
theorem walk {l:PySem.W.OpenLaw} {q:Program} {loose:List Str} {XP:(Str->Option Value)->Heap->Prop} {YP:World->Heap->Prop} {d:DefRec} {K:Params->PySem.W.Frag} (hn:l.most = some 63) (hdf:d.params.defaults = [])
  (hY:∀ (w:World) (h:Heap),YP w h->(K w.params).In h)
  (F:∀ (w:World) (mg:Str->Option Value) (fa:Addr) (h:Heap),(K w.params).In h->h.Ns mainGlobals mg->mg d.name = some (.ref fa) ->
   ∃ fd:FuncData,(∀ (s:Shared) (u:Value),BindsTo s fd ⟨[u],[]⟩ [("_law_script",u)])/\∀ base:Heap,(K w.params).In base->base.Ns mainGlobals mg->FnOk l.prog w (K w.params) mg base CX0 7 fa fd ["_law_script"] (sp_law (K w.params))) :
  PySem.W.WalkO q loose XP YP l.row.toRowW d [] (fun f vs=>PySem.call f vs) :=
 L2.walk_of (n:=63) (k:=7) (x := "_law_script") (CX:=fun _=>CX0) (sp:=fun w=>sp_law (K w.params)) hn (by decide) hdf ⟨rfl,by decide,by decide⟩ hY F (fun _ _ a ns hl _ hS=>⟨a,ns,rfl,hS,hl,fun _=>rfl⟩) fun _ _ _ _ _ z=>z
end Sw
open PySem PySem.W PyProof.Rows
set_option maxRecDepth 100000 in
set_option maxHeartbeats 0 in
theorem PySem.Challenge.cw_strikeweave_k13_whole_and_outright_holds : PySem.Challenge.rw_strikeweave_k13_whole_and_outright.Holds := by
 w_on; o_law; k_head; (case hw=>w_witness2)
 k_fill
 refine Sw.walk (l:=PySem.Challenge.rw_strikeweave_k13_whole_and_outright) rfl rfl (fun w h Y=>PySem.W.kIn_of Y) ?F
 case F =>
  intro w mg fa h KX G hmg
  refine' Sw.all_mk KX G hmg (Sw.Tx.mk (Sw.fn_mk KX G ?a1 ?l2 ?c3 ?k4 (fun _ _ _ _ _ _ us hl=>by obtain ⟨a,b,rfl⟩:=Sw.len2 hl; rfl))
   (Sw.fn_mk KX G ?a5 ?l6 ?c7 ?k8 (fun _ _ _ _ _ _ us hl=>by obtain ⟨a,b,rfl⟩:=Sw.len2 hl; rfl))
   (Sw.fn_mk KX G ?a9 ?l10 ?c11 ?k12 (fun _ _ _ _ _ _ us hl=>by obtain ⟨a,b,rfl⟩:=Sw.len2 hl; rfl))
   (Sw.fn_mk KX G ?a13 ?l14 ?c15 ?k16 (fun _ _ _ _ _ _ us hl=>by obtain ⟨a,b,rfl⟩:=Sw.len2 hl; rfl))
   (Sw.fn_mk KX G ?a17 ?l18 ?c19 ?k20 (fun _ _ _ _ _ _ us hl=>by obtain ⟨a,b,rfl⟩:=Sw.len2 hl; rfl))
   (Sw.fn_mk KX G ?a21 ?l22 ?c23 ?k24 (fun _ _ _ _ _ _ us hl=>by obtain ⟨a,b,rfl⟩:=Sw.len2 hl; rfl))
   (Sw.fn_mk KX G ?a25 ?l26 ?c27 ?k28 (fun _ _ _ _ _ _ us hl=>by obtain ⟨a,b,rfl⟩:=Sw.len2 hl; rfl))
   (Sw.fn_mk KX G ?a29 ?l30 ?c31 ?k32 (fun _ _ _ _ _ _ us hl=>by obtain ⟨a,b,rfl⟩:=Sw.len2 hl; rfl))
   (Sw.fn_mk KX G ?a33 ?l34 ?c35 ?k36 (fun _ _ _ _ _ _ us hl=>by obtain ⟨a,rfl⟩:=Sw.len1 hl; rfl))
   (Sw.fn_mk KX G ?a37 ?l38 ?c39 ?k40 (fun _ _ _ _ _ _ us hl=>by obtain ⟨a,rfl⟩:=Sw.len1 hl; rfl))
   (Sw.fn_mk KX G ?a41 ?l42 ?c43 ?k44 (fun _ _ _ _ _ _ us hl=>by obtain ⟨a,b,rfl⟩:=Sw.len2 hl; rfl))
   (Sw.fn_mk KX G ?a45 ?l46 ?c47 ?k48 (fun _ _ _ _ _ _ us hl=>by obtain ⟨a,b,rfl⟩:=Sw.len2 hl; rfl))
   (Sw.fn_mk KX G ?a49 ?l50 ?c51 ?k52 (fun _ _ _ _ _ _ us hl=>by obtain ⟨a,b,rfl⟩:=Sw.len2 hl; rfl))
   (Sw.fn_mk KX G ?a53 ?l54 ?c55 ?k56 (fun _ _ _ _ _ _ us hl=>by obtain ⟨a,b,rfl⟩:=Sw.len2 hl; rfl))
   (Sw.fn_mk KX G ?a57 ?l58 ?c59 ?k60 (fun _ _ _ _ _ _ us hl=>by obtain ⟨a,b,rfl⟩:=Sw.len2 hl; rfl))
   (Sw.fn_mk KX G ?a61 ?l62 ?c63 ?k64 (fun _ _ _ _ _ _ us hl=>by obtain ⟨a,b,rfl⟩:=Sw.len2 hl; rfl))
   (Sw.fn_mk KX G ?a65 ?l66 ?c67 ?k68 (fun _ _ _ _ _ _ us hl=>by obtain ⟨a,rfl⟩:=Sw.len1 hl; rfl))
   (Sw.fn_mk KX G ?a69 ?l70 ?c71 ?k72 (fun _ _ _ _ _ _ us hl=>by obtain ⟨a,b,rfl⟩:=Sw.len2 hl; rfl))
   (Sw.fn_mk KX G ?a73 ?l74 ?c75 ?k76 (fun _ _ _ _ _ _ us hl=>by obtain ⟨a,b,rfl⟩:=Sw.len2 hl; rfl))
   (Sw.fn_mk KX G ?a77 ?l78 ?c79 ?k80 (fun _ _ _ _ _ _ us hl=>by obtain ⟨a,b,rfl⟩:=Sw.len2 hl; rfl))
   (Sw.fn_mk KX G ?a81 ?l82 ?c83 ?k84 (fun _ _ _ _ _ _ us hl=>by obtain ⟨a,b,rfl⟩:=Sw.len2 hl; rfl))
   (Sw.fn_mk KX G ?a85 ?l86 ?c87 ?k88 (fun _ _ _ _ _ _ us hl=>by obtain ⟨a,b,rfl⟩:=Sw.len2 hl; rfl))
   (Sw.fn_mk KX G ?a89 ?l90 ?c91 ?k92 (fun _ _ _ _ _ _ us hl=>by obtain ⟨a,b,rfl⟩:=Sw.len2 hl; rfl))
   (Sw.fn_mk KX G ?a93 ?l94 ?c95 ?k96 (fun _ _ _ _ _ _ us hl=>by obtain ⟨a,b,rfl⟩:=Sw.len2 hl; rfl))
   (Sw.fn_mk KX G ?a97 ?l98 ?c99 ?k100 (fun _ _ _ _ _ _ us hl=>by obtain ⟨a,b,rfl⟩:=Sw.len2 hl; rfl))
   (Sw.fn_mk KX G ?a101 ?l102 ?c103 ?k104 (fun _ _ _ _ _ _ us hl=>by obtain ⟨a,b,rfl⟩:=Sw.len2 hl; rfl))
   (Sw.fn_mk KX G ?a105 ?l106 ?c107 ?k108 (fun _ _ _ _ _ _ us hl=>by obtain ⟨a,b,rfl⟩:=Sw.len2 hl; rfl))
   (Sw.fn_mk KX G ?a109 ?l110 ?c111 ?k112 (fun _ _ _ _ _ _ us hl=>by obtain ⟨a,b,rfl⟩:=Sw.len2 hl; rfl))
   (Sw.fn_mk KX G ?a113 ?l114 ?c115 ?k116 (fun _ _ _ _ _ _ us hl=>by obtain ⟨a,b,rfl⟩:=Sw.len2 hl; rfl))
   (Sw.fn_mk KX G ?a117 ?l118 ?c119 ?k120 (fun _ _ _ _ _ _ us hl=>by obtain ⟨a,b,rfl⟩:=Sw.len2 hl; rfl))
   (Sw.fn_mk KX G ?a121 ?l122 ?c123 ?k124 (fun _ _ _ _ _ _ us hl=>by obtain ⟨a,b,rfl⟩:=Sw.len2 hl; rfl))
   (Sw.fn_mk KX G ?a125 ?l126 ?c127 ?k128 (fun _ _ _ _ _ _ us hl=>by obtain ⟨a,b,c,rfl⟩:=Sw.len3 hl; rfl))
   _
   ⟨?g130,?g131,?g132,?g133⟩
   (PySem.W.mg_of KX G ?q129)
   (Sw.noattr_mk ?n134)
   (Sw.noattr_mk ?n135)
   (Sw.noattr_mk ?n136)
   (Sw.noattr_mk ?n137)
   _
   _
   (L2.fun_mk ?l140 ?c141 ?k142)
   (L2.Fun.binds (L2.fun_mk ?l140 ?c141 ?k142) (fun _ _ _ _ _ _ us hl=>by obtain ⟨a,b,c,rfl⟩:=Sw.len3 hl; rfl))
   ⟨?g143,?a138,?i139,?k144⟩
   (Sw.mt_mk ?a145 ?i146 ?l147 ?c148 ?k149 (fun _ _ _ _ _ _ us hl=>by obtain ⟨a,rfl⟩:=Sw.len1 hl; rfl))
   (Sw.mt_mk ?a150 ?i151 ?l152 ?c153 ?k154 (fun _ _ _ _ _ _ us hl=>by obtain ⟨a,rfl⟩:=Sw.len1 hl; rfl))
   (Sw.mt_mk ?a155 ?i156 ?l157 ?c158 ?k159 (fun _ _ _ _ _ _ us hl=>by obtain ⟨a,b,rfl⟩:=Sw.len2 hl; rfl))
   (Sw.mt_mk ?a160 ?i161 ?l162 ?c163 ?k164 (fun _ _ _ _ _ _ us hl=>by obtain ⟨a,b,rfl⟩:=Sw.len2 hl; rfl))
   (Sw.mt_mk ?a165 ?i166 ?l167 ?c168 ?k169 (fun _ _ _ _ _ _ us hl=>by obtain ⟨a,b,rfl⟩:=Sw.len2 hl; rfl))
   (Sw.str_mk KX G ?v170 ?e171)
   (Sw.int_mk KX G ?v172 ?e173)
   (PySem.W.mg_none_of KX G ?z174)
   (PySem.W.mg_none_of KX G ?z175)
   (PySem.W.mg_none_of KX G ?z176)
   (PySem.W.mg_none_of KX G ?z177)
   (PySem.W.mg_none_of KX G ?z178)
   (PySem.W.mg_none_of KX G ?z179)
   (PySem.W.mg_none_of KX G ?z180)
   (PySem.W.mg_none_of KX G ?z181)
   (PySem.W.mg_none_of KX G ?z182)
   (PySem.W.mg_none_of KX G ?z183)
   (PySem.W.mg_none_of KX G ?z184)
   (PySem.W.mg_none_of KX G ?z185)
   (PySem.W.mg_none_of KX G ?z186)
   (PySem.W.mg_none_of KX G ?z187)
   (PySem.W.mg_none_of KX G ?z188)) ?aL ?lL ?cL ?kL
  (case a1=>k_is); (case l2=>k_is); (case c3=>k_is); (case k4=>k_is); (case a5=>k_is); (case l6=>k_is)
  (case c7=>k_is); (case k8=>k_is); (case a9=>k_is); (case l10=>k_is); (case c11=>k_is); (case k12=>k_is)
  (case a13=>k_is); (case l14=>k_is); (case c15=>k_is); (case k16=>k_is); (case a17=>k_is); (case l18=>k_is)
  (case c19=>k_is); (case k20=>k_is); (case a21=>k_is); (case l22=>k_is); (case c23=>k_is); (case k24=>k_is)
  (case a25=>k_is); (case l26=>k_is); (case c27=>k_is); (case k28=>k_is); (case a29=>k_is); (case l30=>k_is)
  (case c31=>k_is); (case k32=>k_is); (case a33=>k_is); (case l34=>k_is); (case c35=>k_is); (case k36=>k_is)
  (case a37=>k_is); (case l38=>k_is); (case c39=>k_is); (case k40=>k_is); (case a41=>k_is); (case l42=>k_is)
  (case c43=>k_is); (case k44=>k_is); (case a45=>k_is); (case l46=>k_is); (case c47=>k_is); (case k48=>k_is)
  (case a49=>k_is); (case l50=>k_is); (case c51=>k_is); (case k52=>k_is); (case a53=>k_is); (case l54=>k_is)
  (case c55=>k_is); (case k56=>k_is); (case a57=>k_is); (case l58=>k_is); (case c59=>k_is); (case k60=>k_is)
  (case a61=>k_is); (case l62=>k_is); (case c63=>k_is); (case k64=>k_is); (case a65=>k_is); (case l66=>k_is)
  (case c67=>k_is); (case k68=>k_is); (case a69=>k_is); (case l70=>k_is); (case c71=>k_is); (case k72=>k_is)
  (case a73=>k_is); (case l74=>k_is); (case c75=>k_is); (case k76=>k_is); (case a77=>k_is); (case l78=>k_is)
  (case c79=>k_is); (case k80=>k_is); (case a81=>k_is); (case l82=>k_is); (case c83=>k_is); (case k84=>k_is)
  (case a85=>k_is); (case l86=>k_is); (case c87=>k_is); (case k88=>k_is); (case a89=>k_is); (case l90=>k_is)
  (case c91=>k_is); (case k92=>k_is); (case a93=>k_is); (case l94=>k_is); (case c95=>k_is); (case k96=>k_is)
  (case a97=>k_is); (case l98=>k_is); (case c99=>k_is); (case k100=>k_is); (case a101=>k_is); (case l102=>k_is)
  (case c103=>k_is); (case k104=>k_is); (case a105=>k_is); (case l106=>k_is); (case c107=>k_is); (case k108=>k_is)
  (case a109=>k_is); (case l110=>k_is); (case c111=>k_is); (case k112=>k_is); (case a113=>k_is); (case l114=>k_is)
  (case c115=>k_is); (case k116=>k_is); (case a117=>k_is); (case l118=>k_is); (case c119=>k_is); (case k120=>k_is)
  (case a121=>k_is); (case l122=>k_is); (case c123=>k_is); (case k124=>k_is); (case a125=>k_is); (case l126=>k_is)
  (case c127=>k_is); (case k128=>k_is); (case q129=>k_is); (case g130=>k_is); (case g131=>k_is); (case g132=>k_is)
  (case g133=>k_is); (case n134=>k_is); (case n135=>k_is); (case n136=>k_is); (case n137=>k_is); (case a138=>k_is)
  (case i139=>k_is); (case l140=>k_is); (case c141=>k_is); (case k142=>k_is); (case g143=>k_is); (case k144=>k_is)
  (case a145=>k_is); (case i146=>k_is); (case l147=>k_is); (case c148=>k_is); (case k149=>k_is); (case a150=>k_is)
  (case i151=>k_is); (case l152=>k_is); (case c153=>k_is); (case k154=>k_is); (case a155=>k_is); (case i156=>k_is)
  (case l157=>k_is); (case c158=>k_is); (case k159=>k_is); (case a160=>k_is); (case i161=>k_is); (case l162=>k_is)
  (case c163=>k_is); (case k164=>k_is); (case a165=>k_is); (case i166=>k_is); (case l167=>k_is); (case c168=>k_is)
  (case k169=>k_is); (case v170=>k_is); (case e171=>exact ⟨_,rfl⟩); (case v172=>k_is); (case e173=>exact ⟨_,rfl⟩); (case z174=>k_is)
  (case z175=>k_is); (case z176=>k_is); (case z177=>k_is); (case z178=>k_is); (case z179=>k_is); (case z180=>k_is)
  (case z181=>k_is); (case z182=>k_is); (case z183=>k_is); (case z184=>k_is); (case z185=>k_is); (case z186=>k_is)
  (case z187=>k_is); (case z188=>k_is); (case aL=>k_is); (case lL=>k_is); (case cL=>k_is); (case kL=>k_is)
