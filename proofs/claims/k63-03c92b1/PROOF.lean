import PyProof.Rows.All
import Wide.All
import OpenK.AllK
import Wide.FinOn
import PyProof.Rows.SortShellK
import KE.KSortTup
import Lean
import PyProof.EqAt
import PyProof.EqKinds
import PyProof.TupleCall
import PyProof.SetRoads
import PyProof.DictRoadsH
import PyProof.IsRules
import PyProof.CollectWalk
import PyProof.FactsAll.set
import PyProof.NeData
import PyProof.P3In
import PyProof.TupleOfSeq
import PyProof.ZipIter
import PyProof.Rows.ZipGen
import KE.KDictOf
import PyProof.AttrMissHeap
import PyProof.Rows.SumAny
import PyProof.DictIter
import PyProof.DictWalks
import PyProof.DictValues
import PyProof.ListRange
import PyProof.ListStr
import PyProof.DictTruth
import PySem.Challenge.RW_strikeweave_k63_names_put_and_taken
set_option autoImplicit false
set_option genSizeOf false
set_option genSizeOfSpec false
set_option bootstrap.genMatcherCode false
set_option compiler.extract_closed false
set_option linter.all false
set_option maxRecDepth 100000
abbrev VA:=@PySem.W.Frag
def VB:=@False.elim
def VC:=@True.intro
def VD:=@Nat.le_refl
def VE:=@Nat.le_trans
def VF:=@Nat.le_of_eq
def VG:=@PySem.F.plainAttrs_list
def VH:=@PySem.F.slot_list_append
def VI:=@PySem.F.type_list_append
def VJ:=@PySem.F.slot_list_index
def VL:=@PySem.F.type_list_index
def VM:=@PySem.W.mg_none_of
def VN:=@PySem.F.slot_tuple_add
def VO:=@PySem.F.entry_tuple_add
def VP:=@PyProof.Rows.callWith_type1
def VQ:=@PySem.W.kia_one
def VR:=@PySem.W.kia_tup
section
open PySem PySem.Spec PyProof.Rows
abbrev A0:=@List
abbrev A2:=Value
abbrev A3:=Addr
def PySem.W.Fast:=Nat where
 tw8953591701867794212:=A3
 tw8628484930589202759:=A3
 tw10965144631181584766:=A3
 tw17508373792654195537:=A3
 tw15931245690696996363:=A3
 tw16907950067368161932:=A3
 tw3628609765048007315:=A3
 tw18061091384304721849:=A3
 tw3533865076032970533:=A3
 tw12423783958022505450:=A3
 tw4362358170493696397:=A3
 tw15220672668871217839:=A3
 tw7402295053220952482:=A3
 tw12694288385775584677:=A3
 tw16608185405859191300:=A3
 tw5885251697012690136:=A3
 tw2510144578491304514:=A3
 tw16062229671194241573:=A3
 tw15448231473780811814:=A3
 tw11422955843581321258:=A3
 tw12836388708319363258:=A3
 tw12623324338831989447:=A3
 tw8575179948674102249:=A3
 tw15860975967649766851:=A3
 tw1591143982267856667:=A3
 tw16084431759496945198:=A3
 tw6245989599992659150:=A3
 tw3536688002084856761:=A3
 tw17393837620019883808:=A3
 tw2512956358313150887:=A3
 tw7703463651919945981:=A3
 tw13495239556036493815:=A3
 tw7028637398439245248:=A3
 tw6253851638248175104:=A3
 tw1047080633756042356:=A3
 tw15205074541170697920:=A3
 tw9742028600272345752:=A3
 tw12144642384898813656:=A3
 tw9288930319561470597:=A3
 tw4107096148661626925:=A3
 tw12541294619021415314:=A3
 tw1622268090726967639:=A3
 tw7388906516514156857:=A3
 tw6923988947363316005:=A3
 tw8555358748839072660:=A3
 tw13661292570887245625:=A3
 tw11965518609498112717:=A3
 tw16140219235924108377:=A3
 tw7251339259591120578:=A3
 tw3987273044252588965:=A3
 tw13123405445764219507:=A3
 tw2021850056375031658:=A3
 tw3030047854161585102:=A3
 tw12745697089378875752:=A3
 tw16343024697632598962:=A3
 tw11149583038843248722:=A3
 tw12376866373134589422:=A3
 tw4580554190162014269:=A3
 tw16458593625674674532:=A3
 tw11932469406601571097:=A3
 tw1027478027687918982:=A3
 tw6747305184289648168:=A3
 tw1195080282697440016:=A3
 tw5594409339818829827:=A3
 tw2273215555233237019:=A3
 tw2474444564753956771:=A3
 tw16833500385735892362:=A3
 tw14078133870170482558:=A3
 tw6143524568332540332:=A3
 tw1534843135322724550:=A3
 tw10194662940895298479:=A3
 tw12904904198507723630:=A3
 tw14690491859928663869:=A3
 tw12220177887657477084:=A3
 tw15528772732890132990:=A3
 tw8100569832489406426:=A3
 tw339215277802573520:=A3
 tw5261845229101563022:=A3
 tw16014531540312953724:=A3
 tw11888577402873693140:=A3
 tw13616664398643227857:=A3
 tw7941765338772409545:=A3
 tw2543028754472605324:=A3
 tw17917700315750515404:=A3
 tw18192295855649380187:=A3
 tw4686561320762561061:=A3
 tw14189446512120893980:=A3
 tw551351945241541135:=A3
 tw5762437714415264730:=A3
 tw12442399708497145520:=A3
 tw2224801483931720606:=A3
 tw16814485290899342331:=A3
 tw2364718136222806569:=A3
 tw4633462717737163821:=A3
 tw16567605929557845174:=A3
 tw8139445012406245564:=A3
 tw10023994037646005959:=A3
 tw6783176081531247524:=A3
 tw17861280301500008057:=A3
 tw4310708683407986626:=A3
 tw15818803004831645704:=A3
 tw17318290232484279664:=A3
 tw12615327668677759845:=A3
 tw15141369275429622208:=A3
 tw6971095769993337635:=A3
 tw5543813098648597596:=A3
 tw12101221163449096315:=A3
 tw14474889039822150649:=A3
 tw11580848556589876488:=A3
 tw14888710272654110497:=A3
 tw12442012608641186032:=A3
 tw13780993571626870936:=A3
 tw12083640833664293623:=A3
 tw12587099057117401486:=A3
 tw12587315094908054346:=A3
 tw12196559040952403908:=A3
 tw15014707415884645709:=A3
 tw17339353917486454047:=A3
 tw2098183656991587394:=A3
 tw11397639229269353779:=A3
 tw12359631863167446969:=A3
 tw18064122536309601441:=A3
 tw3116069379474163490:=A3
 tw18357019522674050397:=A3
 tw16618354226876932598:=A3
 tw17069725681427463862:=A3
 tw951863451295055263:=A3
 tw2340873171819700589:=A3
 tw12477063279332761593:=A3
 tw17765816479666025405:=A3
 tw11948665988292116137:=A3
 tw8402176164829256226:=A3
 tw1834199449782733738:=A3
 tw18250755684689167989:=A3
 tw18245106089336960733:=A3
 tw2505278723509370013:=A3
 tw6200423250740162600:=A3
 tw9656965193516001642:=A3
 tw17959196533197950162:=A3
 tw11644470615009041127:=A3
 tw4444999776209932035:=A3
 tw18315839831053494783:=A3
 tw14930502713493950213:=A3
 tw5999129398439225532:=A3
 tw10225054450008057261:=A3
 tw5922585518144308999:=A3
 tw10956101773050862889:=A3
 tw13559930418116042572:=A3
 tw4140372250559517261:=A3
 tw14980783243674022708:=A3
 tw12216960322382943331:=A3
 tw9906863251187317381:=A3
 tw4121371953133607701:=A3
 tw16847788126455741556:=A3
 tw6818565426989602110:=A3
 tw8064405266800451964:=A3
 tw6946355053272867500:=A3
 tw16246727851461758438:=A3
 tw15889432903128112489:=A3
 tw10445478962037194342:=A3
 tw7814848719556623782:=A3
 tw1455397325850319580:=A3
 tw3490531745761019902:=A3
 tw17306499768231798978:=A3
 tw7349032047401857642:=A3
 tw14576864010470087903:=A3
 tw14812138397250128140:=A3
 tw12405715647017032237:=A3
 tw1660202741364881153:=A3
 tw4007669394357389888:=A3
 tw6499502967098617640:=A3
 tw2175427003148159111:=A3
 tw10356288787324834155:=A3
 tw12433949230947498964:=A3
 tw13745073595300817892:=A3
 tw8135991278388133128:=A3
 tw5666483273912866404:=A3
 tw331590058770564717:=A3
 tw14746877909493457287:=A3
 tw11135611045286104524:=A3
 tw8244496219987967560:=A3
 tw7641759830283705315:=A3
 tw13923628820541719987:=A3
 tw9639752763857135278:=A3
 tw17604942706313788145:=A3
 tw16975869898187694680:=A3
 tw3773193269341082062:=A3
 tw3784073762641640070:=A3
 tw15598101011217083046:=A3
 tw9019037575657564685:=A3
 tw771144144049191549:=A3
 tw11743483254643793087:=A3
 tw3824434903398374614:=A3
 tw762782292585831231:=A3
 tw15598468994738140005:=A3
 tw10015290335583651237:=A3
 tw13675071391664325056:=A3
 tw1184397676972904824:=A3
 tw11025164933254339363:=A3
 tw2170176861298878864:=A3
 tw9099454986116637529:=A3
 tw2861452532213172460:=A3
 tw14555656242605059601:=A3
 tw4775237837157589700:=A3
 tw11173890381290499378:=A3
 tw775228151213965886:=A3
 tw13027461780781045591:=A3
 tw7216021862724457692:=A3
 tw9659532094844349406:=A3
 tw3555154424117193289:=A3
 tw7750745835049911213:=A3
 tw56817878644525455:=A3
 tw12925622737715236488:=A3
 tw14806402139872369412:=A3
 tw4630654207741698064:=A3
 tw16395758407911492588:=A3
 tw11140860803737866738:=A3
 tw173498110174975819:=A3
 tw15726479961279768793:=A3
 tw10157838446562412663:=A3
 tw8030010705046132087:=A3
 tw14664328359171207453:=A3
 tw5400456379182085112:=A3
 tw17526892552155377934:=A3
 tw8024252914244368715:=A3
 tw11173469202490541528:=A3
 tw14820343652448069572:=A3
 tw15431947041271057198:=A3
 tw3315152405048206947:=A3
 tw8320470411224044669:=A3
 tw4259045222195953244:=A3
 tw8332553653583842928:=A3
 tw14711971134602187771:=A3
 tw12403613838898021300:=A3
 tw955732107284257639:=A3
 tw4250770679673770019:=A3
 tw13449980028539977749:=A3
 tw5571557092801660692:=A3
 tw7580048618415175251:=A3
 tw1080740914417892832:=A3
 tw6789286326505880595:=A3
 tw17824279732446308440:=A3
 tw7216571010770690272:=A3
 tw11548841809532779389:=A3
 tw18113891225320988682:=A3
 tw9949051445395725126:=A3
 tw6911805341805329349:=A3
 tw6129124177383631176:=A3
 tw17856197939514227706:=A3
 tw879888740405078487:=A3
 tw9612595838840506668:=A3
 tw12980264748406793351:=A3
 tw7690741363304047443:=A3
 tw2102252261248506930:=A3
 tw6087363521336156347:=A3
 tw3247701576564244777:=A3
 tw3678602495773619467:=A3
 tw6388986159554083047:=A3
 tw16305721648350323859:=A3
 tw14743955690702863742:=A3
 tw9365587096549367613:=A3
 tw1132632638069581987:=A3
 tw5933330252448938564:=A3
 tw6329131197342991889:=A3
 tw3169050060959182462:=A3
 tw7765433255854272987:=A3
 tw1720807272135820239:=A3
 tw5734740356543575864:=A3
 tw16416467590501592322:=A3
 tw18189165934639088345:=A3
 tw11828048148253974245:=A3
 tw1965426770205417953:=A3
 tw10230702574592154920:=A3
 tw5517317666337647998:=A3
 tw3985897260698632787:=A3
 tw8697145988219225639:=A3
 tw3480098871153648681:=A3
 tw13034413473591493904:=A3
 tw3510886952708603028:=A3
 tw8018970538065631996:=A3
 tw3898906075325401794:=A3
 tw9292784770130366888:=A3
 tw7778062435731052702:=A3
 tw14759492815929446128:=A3
 tw6386125574606667148:=A3
 tw11270801656485628304:=A3
 tw5859573981395849257:=A3
 tw14824063034314707098:=A3
 tw11422316567686859588:=A3
 tw3445171717949900036:=A3
 tw17876293972636227058:=A3
 tw1705840714966748163:=A3
 tw17713726620923238530:=A3
 tw9689001681653433560:=A3
 tw17198148158614179918:=A3
 tw16448337649622527542:=A3
 tw5737448618029807095:=A3
 tw7096094510165245578:=A3
 tw9942408500876567033:=A3
 tw11303524369127104238:=A3
 tw10627304855263980778:=A3
 tw15906405000703098835:=A3
 tw14271228930381635334:=A3
 tw591857916316005935:=A3
 tw8126435328012161732:=A3
 tw15134955405939950267:=A3
 tw14856425473045407865:=A3
 tw6210284695648993317:=A3
 tw10332924347405051157:=A3
 tw4098882840119419631:=A3
 tw10300169002724793325:=A3
 tw11047137792791634308:=A3
 tw14143594005140957620:=A3
 tw16451212311000987760:=A3
 tw9011294941692480150:=A3
 tw14024809927557528084:=A3
 tw1174261839588196786:=A3
 tw10834445562180126853:=A3
 tw14130264018992740673:=A3
 tw8607181303898732717:=A3
 tw18175499730104636342:=A3
 tw7675539202881221441:=A3
 tw5676821940800859707:=A3
 tw12205720632061937442:=A3
 tw7937142960184588577:=A3
 tw8086637064783165532:=A3
 tw1192946886500064944:=A3
 tw16232274307153472122:=A3
 tw4168094953570518083:=A3
 tw15105597775920710689:=A3
 tw10354791677408177465:=A3
 tw8669653702293811292:=A3
 tw4227040191329260519:=A3
 tw3661639220777746810:=A3
 tw11263097223873685230:=A3
 tw8329239569241352989:=A3
 tw3872548577888332260:=A3
 tw12296620014111740850:=A3
 tw5438234785835550387:=A3
 tw4838713024698902183:=A3
 tw14239362839919075832:=A3
 tw9480950696700807957:=A3
 tw18333486419319045493:=A3
 tw12450096940525505578:=A3
 tw10541720506903174130:=A3
 tw13338216078739981580:=A3
 tw12166222349086757610:=A3
 tw16450711892305205829:=A3
 tw3764798975967531458:=A3
 tw715097805480249413:=A3
 tw5247758838961001034:=A3
 tw12147565499048892925:=A3
 tw3346305078665919218:=A3
 tw11788997574039520284:=A3
 tw3242698594917466726:=A3
 tw5788369957394280532:=A3
 tw18316839109597350240:=A3
 tw2921782346899131786:=A3
 tw8355871836899640924:=A3
 tw856296487336319296:=A3
 tw10858854496678247025:=A3
 tw11150173359428778442:=A3
 tw14228730727058632175:=A3
 tw5957142308650023594:=A3
 tw3826248876108530011:=A3
 tw8845621575191252924:=A3
 tw2991592323858149797:=A3
 tw15188904296892976773:=A3
 tw1812893654382572499:=A3
 tw6140385771971364347:=A3
 tw11086418698653328006:=A3
 tw10766121664279123165:=A3
 tw3116516047777594586:=A3
 tw15731953877789080165:=A3
 tw15230488436492921221:=A3
 tw16710246320348676950:=A3
 tw9666008749349158261:=A3
 tw15402500680776056129:=A3
 tw2509270740892301160:=A3
 tw14022297741238819283:=A3
 tw3033166158886189369:=A3
 tw15679400161928828368:=A3
 tw10643385157546483783:=A3
 tw11908462043098080800:=A3
 tw14163500269294576232:=A3
 tw5312552797464951648:=A3
 tw12065718551522690500:=A3
 tw14000178183264967008:=A3
 tw7899766897431445050:=A3
 tw154692236509270201:=A3
 tw522777560506029685:=A3
 tw16677993411771503563:=A3
 tw3682453350838886950:=A3
 tw16441408011167970003:=A3
 tw11809530968105019632:=A3
 tw10686497484394008694:=A3
 tw2302967941169444188:=A3
 tw9388407319145106563:=A3
 tw16150506520362764857:=A3
 tw2841891611008099628:=A3
 tw8051563634357300402:=A3
 tw15523298289307840313:=A3
 tw9908785192900041669:=A3
 tw11598823201439261584:=A3
 tw8905173960807646611:=A3
 tw15400735911485216037:=A3
 tw5431129219357179161:=A3
 tw5270487034446162556:=A3
 tw10006082875328317115:=A3
 tw3906336759531791713:=A3
 tw5827632191326987412:=A3
 tw11975507294165594060:=A3
 tw4111574996036876532:=A3
 tw3899823695303154254:=A3
 tw10801734651399586407:=A3
 tw1833603001975589779:=A3
 tw6158764628837761798:=A3
 tw11314496156065653026:=A3
 tw2605080668102644031:=A3
 tw16691464551070910679:=A3
 tw6925749210524877343:=A3
 tw16448960495197236259:=A3
 tw16029382808724555887:=A3
 tw15981007980842877088:=A3
 tw16866009735453665182:=A3
 tw14285987446912942289:=A3
 tw15584748392859098461:=A3
 tw15812224824117558904:=A3
 tw18018457250070129914:=A3
 tw11756508745088923531:=A3
 tw10707319959336600659:=A3
 tw6450480125447411023:=A3
 tw15365999016161767268:=A3
 tw4541689011837481515:=A3
 tw16276976704170301141:=A3
 tw16725733910194131534:=A3
 tw16843280567652297264:=A3
 tw6911296972523815582:=A3
 tw743392279294447602:=A3
 tw14474372254721846750:=A3
 tw5010946305923602470:=A3
 tw9367163586693880443:=A3
 tw4574384242367781713:=A3
 tw3226279194358077447:=A3
 tw2791888791750184229:=A3
 tw10332329491343893760:=A3
 tw11957756962938584367:=A3
 tw14126001991479904907:=A3
 tw11863325255376943657:=A3
 tw9019530382745621745:=A3
 tw10952147960015331940:=A3
 tw15517008953278999518:=A3
 tw2776208427945899435:=A3
 tw4450232180717267746:=A3
 tw13652001188650819269:=A3
 tw12755492243578712567:=A3
 tw9497222279868134704:=A3
 tw14195446713465897102:=A3
 tw15063871539235708240:=A3
 tw8505193333288882380:=A3
 tw1846252399233878901:=A3
 tw3235083264915366421:=A3
 tw6444954062415012093:=A3
 tw668381797694122267:=A3
 tw17273158667890182164:=A3
 tw8481826271719624876:=A3
 tw12848167660325540510:=A3
 tw10104342267400046737:=A3
 tw1814005256566203179:=A3
 tw15744135925273093930:=A3
 tw14729214710288956868:=A3
 tw8721075051770433717:=A3
 tw2319698027790554968:=A3
 tw15572587808665264166:=A3
 tw14896383582497338730:=A3
 tw17672858797491736790:=A3
 tw5245500971927016723:=A3
 tw17644972512424368791:=A3
 tw3580543771231017966:=A3
 tw2546814710375859781:=A3
 tw13561314349365580408:=A3
 tw8035621701386384513:=A3
 tw7164818209409875631:=A3
 tw13481591324595293634:=A3
 tw8759556716295092473:=A3
 tw16316826307213355477:=A3
 tw13403943661642791285:=A3
 tw10731883973371760941:=A3
 tw4263984154454147226:=A3
 tw6819660208637507107:=A3
 tw2546032649373075990:=A3
 tw2885818805874922348:=A3
 tw6787757936397841273:=A3
 tw10828946595688692752:=A3
 tw10855071685368449391:=A3
 tw15329522711352467775:=A3
 tw2286210638667540331:=A3
 tw14673009967322961092:=A3
 tw18026586127031100523:=A3
 tw5018363125249585553:=A3
 tw8247140269851352933:=A3
 tw463238472231263643:=A3
 tw1224234713405545650:=A3
 tw18289190656699021837:=A3
 tw6652865567665462199:=A3
 tw9857033867039119013:=A3
abbrev A4:=Shared
abbrev A5:=@Option
abbrev HW:=@Array
abbrev HX:=Program
abbrev HY:=Keyed
abbrev HZ:=World
abbrev IA:=SortSt
abbrev IC:=Heap
abbrev IE:=Around
abbrev IG:=Expr
abbrev IK:=SetTable
abbrev IP:=Stmt
abbrev IW:=FuncData
abbrev JS:=SortKind
abbrev KR:=Scope
abbrev OC:=NameKind
abbrev QY:=Env
end
section
open PySem PySem.Spec PyProof.Rows
def AA:=@wpAny_bind
def AB:=@List.length_map
def AC:=@Heap.get?_push_of_some
def AD:=@wpAny_pure
def AE:=@List.mem_singleton
def AF:=@List.getElem?_eq_getElem
def AG:=@Heap.lt_size
def AH:=@List.getElem?_map
def AI:=@if_neg
def AJ:=@List.map_append
def AK:=@List.getElem?_eq_some_iff
def AL:=@List.mem_cons_of_mem
def AM:=@decide_eq_false
def AN:=@if_pos
def AO:=@List.mem_append
def AQ:=@decide_eq_true
def AR:=@List.size_toArray
def AS:=@Array.length_toList
def AU:=@List.mem_cons
def AV:=@List.length_append
def AW:=@Heap.get?_push_size
def AX:=@List.mem_cons_self
def AY:=@List.mem_filter
def AZ:=@List.length_take
def A_:=@List.not_mem_nil
def BA:=@Nat.ne_of_lt
def BB:=@List.mem_of_getElem?
def BC:=@List.length_filter_le
def BD:=@Bool.false_eq_true
def BE:=@Bool.false_ne_true
def BF:=@Option.map_eq_some_iff
def BG:=@List.append_assoc
def BH:=@Heap.get?_update_other
def BI:=@Nat.lt_of_lt_of_le
def BJ:=@Array.getElem?_toList
def BK:=@List.mem_map
def BL:=@of_decide_eq_true
def BM:=@List.map_cons
def BN:=@List.mem_append_right
def BO:=@List.filter_cons
def BP:=@wpAny_holding
def BQ:=@List.map_map
def BR:=@List.length_cons
def BS:=@List.take_length
def BT:=@Array.toList_append
def BU:=@Option.some.inj
def BV:=@wpAny_newObj_type
def BW:=@List.append_nil
def BX:=@List.take_append_drop
def BZ:=@Heap.get?_update_self
def B_:=@wpAny_mono
def CA:=@List.getD_eq_getElem?_getD
def CB:=@Nat.zero_le
def CC:=@wpAny_field
def CD:=@wpAny_setState_of
def CF:=@wpAny_call_entry
def CG:=@wpAny_callSpecial?_slot
def CH:=@Int.toNat_natCast
def CI:=@List.nodup_append
def CJ:=@Nat.le_of_ble_eq_true
def CL:=@List.nodup_cons
def CM:=@List.filter_append
def CN:=@Array.getD_eq_getD_getElem?
def CO:=@if_false
def CP:=@List.pairwise_append
def CQ:=@List.mem_append_left
def CS:=@Bool.and_eq_true
def CT:=@List.pairwise_map
def CU:=@Heap.size_push
def CV:=@Array.getElem?_eq_some_iff
def CY:=@List.perm_append_comm
def CZ:=@List.Perm.append_left
def C_:=@wpAny_truthy_bool
def DA:=@Nat.lt_irrefl
def DB:=@List.replicate_succ
def DC:=@List.mem_range
def DD:=@List.getElem_mem
def DE:=@Array.toList_push
def DF:=@List.mem_of_mem_take
def DG:=@wpAny_rule
def DH:=@wpAny_setField_rec
def DI:=@codeAny_builtin
def DJ:=@wpAny_ite_false
def DK:=@List.length_drop
def DL:=@List.getElem?_take_of_lt
def DM:=@Nat.le_succ
def DN:=@Heap.SameBut.update
def DP:=@Bool.false_and
def DQ:=@List.filter_nil
def DR:=@Nat.le_of_lt
def DT:=@List.Perm.append_right
def DU:=@List.take_of_length_le
def DV:=@List.drop_eq_getElem_cons
def DW:=@List.filter_sublist
def DX:=@List.length_range
def DY:=@List.getElem?_toArray
def DZ:=@wpAny_seqItems
def D_:=@List.nodup_nil
def EA:=@List.mem_iff_getElem
def EB:=@List.all_eq_true
def EC:=@List.drop_zero
def ED:=@wpAny_setField
def EE:=@Array.getElem?_eq_none
def EF:=@Nat.add_le_add_left
def EG:=@wpAny_of_eq
def EH:=@List.extract_eq_take_drop
def EI:=@Array.getElem?_eq_getElem
def EJ:=@List.Pairwise.and_mem
def EK:=@Nat.le_add_right
def EL:=@decide_eq_decide
def EM:=@Nat.zero_add
def EN:=@Bool.not_true
def EO:=@List.filterMap_cons_some
def EQ:=@List.mem_of_mem_drop
def ER:=@Array.toList_extract
def ES:=@List.take_sublist
def ET:=@Bool.eq_false_iff
def EU:=@Nat.lt_succ_of_lt
def EV:=@wpAny_execs_nil
def EW:=@List.filterMap_cons
def EX:=@List.drop_eq_nil_of_le
def EY:=@wpAny_typeOf
def EZ:=@wpAny_standAt
def E_:=@Nat.succ_le_succ
def FA:=@Nat.lt_succ_self
def FB:=@List.drop_drop
def FC:=@Int.emod_lt_of_pos
def FD:=@wpAny_ite_true
def FE:=@List.Perm.of_eq
def FF:=@wpAny_passesOwn
def FG:=@List.drop_sublist
def FH:=@Array.toList_reverse
def FI:=@List.ext_getElem?
def FJ:=@wpAny_pyIter_list
def FK:=@codeAny_mono
def FM:=@List.flatten_cons
def FN:=@Option.isSome_iff_exists
def FO:=@List.length_eq_zero_iff
def FP:=@wpAny_isInstance
def FQ:=@Nat.zero_lt_succ
def FR:=@wpAny_getItem_str_slice
def FS:=@Nat.zero_testBit
def FT:=@Nat.lt_of_le_of_ne
def FU:=@Nat.eq_zero_of_not_pos
def FV:=@List.getElem?_drop
def FW:=@Array.size_extract
def FX:=@wpAny_pyIter_tuple
def FY:=@wpAny_Call_Name_kw
def FZ:=@List.map_nil
def F_:=@Nat.min_eq_left
def GA:=@List.foldl_cons
def GB:=@List.nil_append
def GC:=@Bool.eq_iff_iff
def GD:=@List.find?_cons
def GE:=@wpAny_specialOf
def GF:=@Int.emod_nonneg
def GG:=@List.filter_map
def GH:=@wpAny_attempt
def GI:=@List.any_cons
def GJ:=@List.getElem?_eq_none
def GK:=@List.length_replicate
def GL:=@List.length_singleton
def GM:=@if_true
def GN:=@Nat.lt_of_succ_lt
def GO:=@List.drop_take
def GP:=@List.getElem?_append_right
def GQ:=@wpAny_newTuple
def GR:=@List.getElem?_set_ne
def GS:=@Heap.size_update
def GT:=@Nat.ne_of_gt
def GU:=@List.any_eq_true
def GV:=@wpAny_askSetting
def GX:=@List.getElem?_append_left
def GY:=@List.getElem?_eq_none_iff
def GZ:=@List.reverse_append
def G_:=@List.map_eq_nil_iff
def HB:=@Array.size_setIfInBounds
def HC:=@List.filterMap_cons_none
def HD:=@Nat.zero_lt_one
def HE:=@Option.map_some
def HF:=@of_decide_eq_false
def HG:=@Nat.sub_pos_of_lt
def HH:=@Array.size_map
def HI:=@List.getElem?_set_self
def HJ:=@Bool.and_false
def HK:=@Bool.not_false
def HL:=@Array.size_append
def HM:=@wpAny_storeSet_of
def HN:=@wpAny_pyIter_enum
def HP:=@List.le_antisymm
def HQ:=@wpAny_execs_cons
def HR:=@Heap.ExtBut.push
def HS:=@wpAny_pyIter_zip
def HU:=@List.drop_length
def HV:=@Bool.true_and
end
noncomputable section
namespace TS
def zAk{k x l r:Nat}(h:l<r)(a:r-l<=k-x):(l+r) / 2-l<=k-(x+1) :=
 VE (Nat.le_pred_of_lt (Nat.sub_lt_sub_right ((Nat.le_div_iff_mul_le (by decide)).mpr (by rw[Nat.mul_two];exact EF (DR h) l)) ((Nat.div_lt_iff_lt_mul (by decide)).mpr (by rw[Nat.mul_two];exact Nat.add_lt_add_right h r)))) (Nat.pred_le_pred a)
def Xt{n x l r m:Nat}(h:l<=m)(a:r-l<=n-x):r-(m+1)<=n-(x+1):=VE (Nat.sub_le_sub_left (E_ h) r) (Nat.pred_le_pred a)
def zAc{k x l r:Nat}(h:l<r)(a:r-l<=k-x):r-((l+r) / 2+1)<=k-(x+1) :=
 Xt ((Nat.le_div_iff_mul_le (by decide)).mpr (by rw[Nat.mul_two];exact EF (DR h) l)) a
def zDu{n x l r:Nat}(h:l<r)(a:r-l<=n-x):l +(r-l) / 2-l<=n-(x+1):=by
 rw[Nat.add_sub_cancel_left];exact VE (Nat.le_pred_of_lt (Nat.div_lt_self (HG h) (by decide))) (Nat.pred_le_pred a)
def zIr{lo x q k:Nat}(h:q+1<=x)(a:lo+x-(q+1)<=k):x-(q+1)<=k-lo:=Nat.le_sub_of_add_le' (by rw[Nat.add_sub_assoc h]at a;exact a)
open PySem PyProof.Rows
def kk(Z:KeyKind)(p:HY):Z.α:=(Z.keyOf p.1).getD Z.dflt
def RG(Z:KeyKind)(p:HY):Prop:=∃a,Z.keyOf p.1=some a
def le(Z:KeyKind)(p q:HY):Prop:=Z.kle (kk Z p) (kk Z q)
def K2(Z:KeyKind)(l:A0 HY):Prop:=l.Pairwise (le Z)
structure QU(prog:HX)(w:HZ)(A:IE)(s:A4)(Z:KeyKind)(kd:JS):Prop where
 lt:∀(x y:A2) (a b:Z.α) (Q:Bool->A4->Prop) (E:A2->A4->Prop),Z.keyOf x=some a->Z.keyOf y=some b->Q (Z.blt a b) s->wpAny (model prog w) A (keyLt' kd x y) Q E s
section
variable{prog:HX}{w:HZ}{A:IE}{E:A2->A4->Prop}{s:A4}{Z:KeyKind}{kd:JS}
theorem Iv(C:QU prog w A s Z kd){st:IA}{x y:HY}{Q:A5 Bool->IA->Prop}(e:kindOf st=kd)(f:RG Z x)(g:RG Z y)
  (h:Q (some (Z.blt (kk Z x) (kk Z y))) st):wpS (model prog w) A E s (lt' x y) Q st:=by
 obtain⟨a,c⟩:=f;obtain⟨b,d⟩:=g;have i:kk Z x=a:=by unfold kk;rw[c];rfl
 have j:kk Z y=b:=by unfold kk;rw[d];rfl
 rw[i,j]at h;rw[lt'_eq];refine wpS_bind (wpS_get ?_);rw[e];refine wpS_bind (wpS_lift (GH (C.lt x.1 y.1 a b _ _ c d ⟨rfl,?_⟩)));exact wpS_pure h
theorem G5{st:IA}{a:HW HY}{i:Nat}{p:HY}{Q:HY->IA->Prop}(hi:a[i]?=some p)(h:Q p st):wpS (model prog w) A E s (elem' a i) Q st:=by
 rw[elem'_eq,hi];exact wpS_pure h
def V8:Bool->HY->HW HY->Nat->Nat->Nat->StateT IA Sem (A5 Nat):=sortPriv% PySem.Builtin.gallop
def SM(left:Bool)(a:HY)(b:HW HY)(bs:Nat)(i:Nat):StateT IA Sem (A5 Bool):=do
 let x <-elem' b (bs+i)
 if left then lt' x a else return(<-lt' a x).map (!·)
theorem Os(left:Bool)(c:HY)(d:HW HY)(bs n b:Nat):V8 left c d bs n b =(do
  let mut la:=0
  let mut a:=1
  let mut lo:=0
  let mut hi:=0
  let some g <-SM left c d bs b | return none
  if g then
   let e:=n-b
   for _ in [0:n] do
    if a ≥ e then break
    let some f <-SM left c d bs (b+a) | return none
    if !f then break
    la:=a
    a:=2*a+1
   lo:=b+la+1
   hi:=b+min a e
  else
   let e:=b+1
   for _ in [0:n] do
    if a ≥ e then break
    let some h <-SM left c d bs (b-a) | return none
    if h then break
    la:=a
    a:=2*a+1
   lo:=b+1-min a e
   hi:=b-la
  for _ in [0:n] do
   if lo ≥ hi then break
   let m:=lo +(hi-lo) / 2
   let some f <-SM left c d bs m | return none
   if f then lo:=m+1 else hi:=m
  return some hi):=rfl
def PB(Z:KeyKind)(left:Bool)(a:HY)(p:HY):Bool:=if left then Z.blt (kk Z p) (kk Z a)else !Z.blt (kk Z a) (kk Z p)
theorem Zf(C:QU prog w A s Z kd){st:IA}{left:Bool}{b p:HY}{c:HW HY}{bs i:Nat}{Q:A5 Bool->IA->Prop}(d:kindOf st=kd)(a:RG Z b)(e:RG Z p)(hi:c[bs+i]?=some p)
  (h:Q (some (PB Z left b p)) st):wpS (model prog w) A E s (SM left b c bs i) Q st:=by
 unfold SM;refine wpS_bind (G5 hi ?_);cases left with
 | true=>exact Iv C d e a h
 | false =>
  simp only[BD,CO];refine wpS_bind (Iv C d a e ?_);exact wpS_pure h
theorem Nr(C:QU prog w A s Z kd){st:IA}{left:Bool}{L:HY}{O:HW HY}{bs n g:Nat}{Q:A5 Nat->IA->Prop}(hk:kindOf st=kd)(R:RG Z L)
  (P:Nat->Bool) (hP:∀i,i<n->∃p,O[bs+i]?=some p/\RG Z p/\PB Z left L p=P i) (o:∀i j,i<=j->j<n->P j=true->P i=true) (T:g<n)
  (h:∀k,k<=n->(∀i,i<k->P i=true)->(∀i,k<=i->i<n->P i=false)->Q (some k) st):wpS (model prog w) A E s (V8 left L O bs n g) Q st:=by
 have B:∀{a:IA} {i:Nat} {Q:A5 Bool->IA->Prop},a=st->i<n->Q (some (P i)) a->wpS (model prog w) A E s (SM left L O bs i) Q a:=by
  intro a i Q e hi q;subst e;obtain⟨p,U,V,W⟩:=hP i hi;exact Zf C hk R V U (by rw[W];exact q)
 have m:∀i j,i<=j->j<n->P i=false->P j=false:=by
  intro i j X hj hi;cases e:P j with
  | false=>rfl
  | true=>rw[o i j X hj e]at hi;cases hi
 rw[Os];dsimp only;refine wpS_bind (B rfl T ?_);dsimp only;have S:∀{lo hi:Nat} {f:Nat->(A5 (A5 Nat)×Nat×Nat)->StateT IA Sem (ForInStep (A5 (A5 Nat)×Nat×Nat))},
   (∀x l h,wpS (model prog w) A E s (f x (none,l,h)) (λr a=>a=st/\(if h<=l then r = .done (none,l,h)else if P (l +(h-l) / 2)=true then r = .yield (none,l +(h-l) / 2+1,h)else r = .yield (none,l,l +(h-l) / 2))) st\/¬(h<=l\/l +(h-l) / 2<n)) ->
   lo<=hi->hi<=n->(∀i,i<lo->P i=true)->(∀i,hi<=i->i<n->P i=false) ->
   wpS (model prog w) A E s (forIn [0:n] (none,lo,hi) f) (λc a=>a=st/\∃k,c =(none,k,k)/\k<=n/\(∀i,i<k->P i=true)/\(∀i,k<=i->i<n->P i=false)) st:=by
  intro lo hi f hf U V W h4;refine wpS_forRange (I:=λx c a=>a=st/\∃l r,c =(none,l,r)/\l<=r/\r<=n/\r-l<=n-x/\(∀i,i<l->P i=true)/\(∀i,r<=i->i<n->P i=false)) ?_ ?_ ⟨rfl,lo,hi,rfl,U,V,by lia,W,h4⟩
  .rintro x c a _ hx ⟨rfl,l,r,rfl,hl,K,Y,M,N⟩;have hin:r<=l\/l +(r-l) / 2<n:=by lia
   rcases hf x l r with q | q
   .refine wpS_mono q λz st2 ⟨e,F⟩=>?_;subst e;by_cases b:r<=l
    .rw[AN b]at F;subst F;have:l=r:=by lia
     subst this;exact⟨rfl,l,rfl,K,M,N⟩
    .rw[AI b]at F;cases u:P (l +(r-l) / 2)with
     | true =>
      rw[AN u]at F;subst F;exact⟨rfl,_,_,rfl,by lia,by lia,Xt (EK ..) Y,λi hi=>o i (l +(r-l) / 2) (by lia) (by lia) u,N⟩
     | false =>
      rw[AI (by rw[u];exact BE)]at F;subst F;exact⟨rfl,_,_,rfl,by lia,by lia,zDu (Nat.lt_of_not_le b) Y,M,λi G y=>m (l +(r-l) / 2) i G y u⟩
   .exact absurd hin q
  .rintro c a ⟨rfl,l,r,rfl,hl,K,Y,M,N⟩;have:l=r:=by lia
   subst this;exact⟨rfl,l,rfl,K,M,N⟩
 cases K:P g with
 | true =>
  rw[AN rfl];refine wpS_bind (wpS_mono (wpS_forRange (I:=λx c a=>a=st/\∃la d,c =(none,la,d)/\la<d/\x+1<=d/\g+la<n/\P (g+la)=true)
   (Q:=λc a=>a=st/\∃la d,c =(none,la,d)/\la<d/\g+la<n/\P (g+la)=true/\(n-g<=d\/(g+d<n/\P (g+d)=false))) ?st ?en ⟨rfl,0,1,rfl,by lia,by lia,by lia,K⟩) ?po)
  case en =>
   rintro c a ⟨rfl,la,d,rfl,D,a2,v,t⟩;exact⟨rfl,la,d,rfl,D,v,t,.inl (by lia)⟩
  case st =>
   rintro x c a _ hx ⟨rfl,la,d,rfl,D,a2,v,t⟩;dsimp only;by_cases b:d ≥ n-g
   .rw[AN b];exact wpS_pure ⟨rfl,la,d,rfl,D,v,t,.inl b⟩
   .rw[AI b];refine wpS_bind (B rfl (show g+d<n by lia) ?_);cases u:P (g+d)with
    | true=>exact wpS_pure ⟨rfl,d,2*d+1,rfl,by lia,by lia,by lia,u⟩
    | false=>exact wpS_pure ⟨rfl,la,d,rfl,D,v,t,.inr ⟨by lia,u⟩⟩
  case po =>
   rintro c a ⟨rfl,la,d,rfl,D,v,t,H⟩;dsimp only;refine wpS_bind (wpS_mono (S (lo:=g+la+1) (hi:=g+min d (n-g)) (λx l J=>by
    dsimp only;by_cases b:J<=l
    .refine .inl ?_;rw[AN b];exact wpS_pure ⟨rfl,by rw[AN b]⟩
    .by_cases hn:l +(J - l) / 2<n
     .refine .inl ?_;rw[AI b];refine wpS_bind (B rfl hn ?_);dsimp only;cases u:P (l +(J - l) / 2)with
      | true =>
       simp only[GM];exact wpS_pure ⟨rfl,by rw[AI b]⟩
      | false =>
       simp only[BD,CO];exact wpS_pure ⟨rfl,by rw[AI b]⟩
     .exact .inr (by lia)) (by lia) (by lia) (λi hi=>o i (g+la) (by lia) v t) λi G y=>?_) λc a ⟨e,k,e2,b1,b2,b3⟩=>?_)
   .rcases H with H | ⟨H,a6⟩
    .lia
    .exact m (g+d) i (by lia) y a6
   .subst e e2;exact wpS_pure (h k b1 b2 b3)
 | false =>
  rw[AI BE];refine wpS_bind (wpS_mono (wpS_forRange (I:=λx c a=>a=st/\∃la d,c =(none,la,d)/\la<d/\x+1<=d/\la<=g/\P (g-la)=false)
   (Q:=λc a=>a=st/\∃la d,c =(none,la,d)/\la<d/\la<=g/\P (g-la)=false/\(g+1<=d\/(d<=g/\P (g-d)=true))) ?st ?en ⟨rfl,0,1,rfl,by lia,by lia,by lia,K⟩) ?po)
  case en =>
   rintro c a ⟨rfl,la,d,rfl,D,a2,v,t⟩;exact⟨rfl,la,d,rfl,D,v,t,.inl (by lia)⟩
  case st =>
   rintro x c a _ hx ⟨rfl,la,d,rfl,D,a2,v,t⟩;dsimp only;by_cases b:d ≥ g+1
   .rw[AN b];exact wpS_pure ⟨rfl,la,d,rfl,D,v,t,.inl b⟩
   .rw[AI b];refine wpS_bind (B rfl (show g-d<n by lia) ?_);cases u:P (g-d)with
    | false=>exact wpS_pure ⟨rfl,d,2*d+1,rfl,by lia,by lia,by lia,u⟩
    | true=>exact wpS_pure ⟨rfl,la,d,rfl,D,v,t,.inr ⟨by lia,u⟩⟩
  case po =>
   rintro c a ⟨rfl,la,d,rfl,D,v,t,H⟩;dsimp only;refine wpS_bind (wpS_mono (S (lo:=g+1-min d (g+1)) (hi:=g-la) (λx l J=>by
    dsimp only;by_cases b:J<=l
    .refine .inl ?_;rw[AN b];exact wpS_pure ⟨rfl,by rw[AN b]⟩
    .by_cases hn:l +(J - l) / 2<n
     .refine .inl ?_;rw[AI b];refine wpS_bind (B rfl hn ?_);dsimp only;cases u:P (l +(J - l) / 2)with
      | true =>
       simp only[GM];exact wpS_pure ⟨rfl,by rw[AI b]⟩
      | false =>
       simp only[BD,CO];exact wpS_pure ⟨rfl,by rw[AI b]⟩
     .exact .inr (by lia)) (by lia) (by lia) (λi hi=>?_) λi G y=>m (g-la) i (by lia) y t) λc a ⟨e,k,e2,b1,b2,b3⟩=>?_)
   .rcases H with H | ⟨H,a6⟩
    .lia
    .exact o i (g-d) (by lia) (by lia) a6
   .subst e e2;exact wpS_pure (h k b1 b2 b3)
end
end TS
namespace TS
open PySem PyProof.Rows
section
variable{Z:KeyKind}
theorem RR(p:HY):le Z p p:=KeyOrd.kle_refl _
theorem JA{p q r:HY}(h1:le Z p q)(h2:le Z q r):le Z p r:=KeyOrd.kle_trans h1 h2
structure ML(Z:KeyKind)(a b:A0 HY)(o:A0 HY)(i j:Nat):Prop where
 perm:o.Perm (a.take i++b.take j)
 sor:K2 Z o
 la:∀x∈o,∀y∈a.drop i,le Z x y
 lb:∀x∈o,∀y∈b.drop j,le Z x y
theorem ML.sym{a b o:A0 HY}{i j:Nat}(m:ML Z a b o i j):ML Z b a o j i:=⟨m.perm.trans CY,m.sor,m.lb,m.la⟩
theorem Hc{l:A0 HY}(k:Nat)(h:K2 Z l):∀x∈l.take k,∀y∈l.drop k,le Z x y:=by
 have a:K2 Z (l.take k++l.drop k):=by rw[BX];exact h
 exact(CP.mp a).2.2
theorem ML.addA{a b o:A0 HY}{i j:Nat}(m:ML Z a b o i j)(e:K2 Z a)(k:Nat)(f:∀y∈(a.drop i).take k,∀z∈b.drop j,le Z y z):ML Z a b (o ++(a.drop i).take k) (i+k) j:=by
 have d:K2 Z (a.drop i):=e.sublist (FG _ _);refine⟨?_,?_,λx hx y c=>?_,λx hx y c=>?_⟩
 .rw[List.take_add];refine(DT _ m.perm).trans ?_;rw[BG,BG];exact CZ _ CY
 .refine CP.mpr ⟨m.sor,d.sublist (ES _ _),λx hx y c=>m.la x hx y (DF c)⟩
 .rw[<-FB]at c;rcases AO.mp hx with hx | hx
  .exact m.la x hx y (EQ c)
  .exact Hc k d x hx y c
 .rcases AO.mp hx with hx | hx
  .exact m.lb x hx y c
  .exact f x hx y c
theorem ML.addB{a b o:A0 HY}{i j:Nat}(m:ML Z a b o i j)(c:K2 Z b)(k:Nat)(d:∀y∈(b.drop j).take k,∀z∈a.drop i,le Z y z):ML Z a b (o ++(b.drop j).take k) i (j+k) :=
 (m.sym.addA c k d).sym
theorem ML.endA{a b o:A0 HY}{i j:Nat}(m:ML Z a b o i j)(e:K2 Z a)(f:K2 Z b)(h:∀y∈a.drop i,∀z∈b.drop j,le Z y z):K2 Z (o++a.drop i++b.drop j)/\(o++a.drop i++b.drop j).Perm (a++b):=by
 refine⟨?_,?_⟩
 .refine CP.mpr ⟨CP.mpr ⟨m.sor,e.sublist (FG _ _),m.la⟩,f.sublist (FG _ _),λx hx y c=>?_⟩;rcases AO.mp hx with hx | hx
  .exact m.lb x hx y c
  .exact h x hx y c
 .have g:(o++a.drop i++b.drop j).Perm ((a.take i++b.take j)++a.drop i++b.drop j):=DT _ (DT _ m.perm);refine g.trans ?_;have d:((a.take i++b.take j)++a.drop i++b.drop j).Perm ((a.take i++a.drop i) ++(b.take j++b.drop j)):=by
   rw[BG,BG,BG];refine CZ _ ?_;rw[<-BG,<-BG];exact DT _ CY
  rw[BX,BX]at d;exact d
theorem ML.endB{a b o:A0 HY}{i j:Nat}(m:ML Z a b o i j)(c:K2 Z a)(d:K2 Z b)(h:∀y∈b.drop j,∀z∈a.drop i,le Z y z):K2 Z (o++b.drop j++a.drop i)/\(o++b.drop j++a.drop i).Perm (a++b) :=
 ⟨(m.sym.endA d c h).1,(m.sym.endA d c h).2.trans CY⟩
structure MH(Z:KeyKind)(a b:A0 HY)(o:A0 HY)(i j:Nat):Prop where
 perm:o.Perm (a.drop i++b.drop j)
 sor:K2 Z o
 la:∀x∈o,∀y∈a.take i,le Z y x
 lb:∀x∈o,∀y∈b.take j,le Z y x
theorem MH.sym{a b o:A0 HY}{i j:Nat}(m:MH Z a b o i j):MH Z b a o j i:=⟨m.perm.trans CY,m.sor,m.lb,m.la⟩
theorem MH.addA{a b o:A0 HY}{i j:Nat}(m:MH Z a b o i j)(g:K2 Z a)(k:Nat)(d:k<=i)(h:∀y∈(a.take i).drop k,∀z∈b.take j,le Z z y):MH Z a b ((a.take i).drop k++o) k j:=by
 have f:K2 Z (a.take i):=g.sublist (ES _ _);have e:a.drop k =(a.take i).drop k++a.drop i:=by
  conv=>lhs;rw[<-BX i a]
  rw[List.drop_append];by_cases l:i<=a.length
  .rw[AZ,F_ l,Nat.sub_eq_zero_of_le d,EC]
  .have:a.drop i = []:=EX (by lia);rw[this,List.drop_nil]
 have n:(a.take i).take k=a.take k:=by rw[List.take_take,F_ d]
 refine⟨?_,?_,λx hx y c=>?_,λx hx y c=>?_⟩
 .rw[e,BG];exact CZ _ m.perm
 .exact CP.mpr ⟨f.sublist (FG _ _),m.sor,λx hx y c=>m.la y c x (EQ hx)⟩
 .rw[<-n]at c;rcases AO.mp hx with hx | hx
  .exact Hc k f y c x hx
  .exact m.la x hx y (DF c)
 .rcases AO.mp hx with hx | hx
  .exact h x hx y c
  .exact m.lb x hx y c
theorem MH.addB{a b o:A0 HY}{i j:Nat}(m:MH Z a b o i j)(d:K2 Z b)(k:Nat)(c:k<=j)(e:∀y∈(b.take j).drop k,∀z∈a.take i,le Z z y):MH Z a b ((b.take j).drop k++o) i k :=
 (m.sym.addA d k c e).sym
theorem MH.endA{a b o:A0 HY}{i j:Nat}(m:MH Z a b o i j)(e:K2 Z a)(f:K2 Z b)(h:∀y∈a.take i,∀z∈b.take j,le Z y z):K2 Z (a.take i++b.take j++o)/\(a.take i++b.take j++o).Perm (a++b):=by
 refine⟨?_,?_⟩
 .refine CP.mpr ⟨CP.mpr ⟨e.sublist (ES _ _),f.sublist (ES _ _),h⟩,m.sor,λx hx y c=>?_⟩;rcases AO.mp hx with hx | hx
  .exact m.la y c x hx
  .exact m.lb y c x hx
 .have g:(a.take i++b.take j++o).Perm (a.take i++b.take j ++(a.drop i++b.drop j)):=CZ _ m.perm;refine g.trans ?_;have d:(a.take i++b.take j ++(a.drop i++b.drop j)).Perm ((a.take i++a.drop i) ++(b.take j++b.drop j)):=by
   rw[BG,BG];refine CZ _ ?_;rw[<-BG,<-BG];exact DT _ CY
  rw[BX,BX]at d;exact d
theorem MH.endB{a b o:A0 HY}{i j:Nat}(m:MH Z a b o i j)(c:K2 Z a)(d:K2 Z b)(h:∀y∈b.take j,∀z∈a.take i,le Z y z):K2 Z (b.take j++a.take i++o)/\(b.take j++a.take i++o).Perm (a++b) :=
 ⟨(m.sym.endA d c h).1,(m.sym.endA d c h).2.trans CY⟩
end
section
variable{prog:HX}{w:HZ}{A:IE}{E:A2->A4->Prop}{s:A4}{Z:KeyKind}{kd:JS}
def Bw(g:Nat):StateT IA Sem Unit:=modify λs=>SortSt.mk' (kindOf s) (arrOf s) (pendingOf s) g (failedOf s)
def Er:HW HY->HW HY->StateT IA Sem (HW HY):=sortPriv% PySem.Builtin.mergeLo
theorem Jr(a b:HW HY):Er a b =(do
  rule "list.sort.merge-lo"
  let e:=a.size+b.size
  let d (o:HW HY) (i j:Nat):=o++a.extract i a.size++b.extract j b.size
  let h (o:HW HY) (i j:Nat):=o++b.extract j b.size++a.extract i a.size
  let mut o:HW HY:=#[<-elem' b 0]
  let mut i:=0
  let mut j:=1
  if j == b.size then return d o i j
  if i+1 == a.size then return h o i j
  let mut c:=gallopOf (<-get)
  for _ in [0:e] do
   let mut f:=0
   let mut g:=0
   for _ in [0:e] do
    let some l <-lt' (<-elem' b j) (<-elem' a i) | return d o i j
    if l then
     o:=o.push (<-elem' b j);j:=j+1;g:=g+1;f:=0
     if j == b.size then return d o i j
     if g ≥ c then break
    else
     o:=o.push (<-elem' a i);i:=i+1;f:=f+1;g:=0
     if i+1 == a.size then return h o i j
     if f ≥ c then break
   rule "list.sort.gallop"
   c:=c+1
   for _ in [0:e] do
    if c>1 then c:=c-1
    Bw c
    let some k <-V8 false (<-elem' b j) a i (a.size-i) 0 | return d o i j
    f:=k
    if k>0 then
     o:=o++a.extract i (i+k);i:=i+k
     if i+1 == a.size then return h o i j
     if i == a.size then return d o i j
    o:=o.push (<-elem' b j);j:=j+1
    if j == b.size then return d o i j
    let some k <-V8 true (<-elem' a i) b j (b.size-j) 0 | return d o i j
    g:=k
    if k>0 then
     o:=o++b.extract j (j+k);j:=j+k
     if j == b.size then return d o i j
    o:=o.push (<-elem' a i);i:=i+1
    if i+1 == a.size then return h o i j
    if f<7&&g<7 then break
   c:=c+1
   Bw c
  unsupported "internal:list.sort.merge-bound"):=rfl
def Sm(st a:IA):Prop:=kindOf a=kindOf st/\arrOf a=arrOf st/\pendingOf a=pendingOf st/\failedOf a=failedOf st
theorem Sm.refl(st:IA):Sm st st:=⟨rfl,rfl,rfl,rfl⟩
theorem Z0{st st0:IA}{g:Nat}{Q:Unit->IA->Prop}(b:Sm st0 st)(h:∀a,Sm st0 a->Q () a):wpS (model prog w) A E s (Bw g) Q st :=
 wpS_modify (h _ ⟨b.1,b.2.1,b.2.2.1,b.2.2.2⟩)
theorem Ed{l:A0 HY}{i k:Nat}{y:HY}(h:y∈(l.drop i).take k):∃t,t<k/\l[i+t]?=some y:=by
 obtain⟨t,a,e⟩:=EA.mp h;rw[AZ,DK]at a;refine⟨t,by lia,?_⟩;rw[List.getElem_take,List.getElem_drop]at e;rw[<-e];exact AF (by lia)
theorem Jp{l:A0 HY}{i:Nat}{y:HY}(h:y∈l.drop i):∃t,i+t<l.length/\l[i+t]?=some y:=by
 obtain⟨t,a,e⟩:=EA.mp h;rw[DK]at a;refine⟨t,by lia,?_⟩;rw[List.getElem_drop]at e;rw[<-e];exact AF (by lia)
theorem Oz{l:A0 HY}{i:Nat}{y:HY}(h:y∈l.take i):∃t,t<i/\t<l.length/\l[t]?=some y:=by
 obtain⟨t,a,e⟩:=EA.mp h;rw[AZ]at a;refine⟨t,by lia,by lia,?_⟩;rw[List.getElem_take]at e;rw[<-e];exact AF (by lia)
theorem Xh{l:A0 HY}{i k:Nat}{y:HY}(h:y∈(l.take i).drop k):∃t,k<=t/\t<i/\l[t]?=some y:=by
 obtain⟨t,b,a⟩:=Jp h;rw[AZ]at b;rw[DL (by lia)]at a;exact⟨k+t,by lia,by lia,a⟩
theorem Aj{l:A0 HY}(h:K2 Z l){i j:Nat}{p q:HY}(a:i<=j)(b:l[i]?=some p)(c:l[j]?=some q):le Z p q:=by
 obtain⟨d,rfl⟩:=AK.mp b;obtain⟨e,rfl⟩:=AK.mp c;rcases Nat.lt_or_eq_of_le a with z | z
 .exact List.pairwise_iff_getElem.mp h i j d e z
 .subst z;exact RR _
theorem Fv{l:A0 HY}(h:K2 Z l){i:Nat}{p:HY}(a:l[i]?=some p):∀z∈l.drop i,le Z p z:=λz b=>by
 obtain⟨t,_,e⟩:=Jp b;exact Aj h (EK _ _) a e
theorem IH{a:HW HY}{i:Nat}{p:HY}:a[i]?=some p↔a.toList[i]?=some p:=by rw[BJ]
theorem o0{a:HW HY}{i:Nat}(h:i<a.size):∃p,a[i]?=some p:=⟨a[i],getElem?_pos a i h⟩
theorem Qr{l:A0 HY}{i:Nat}{p:HY}(h:l[i]?=some p):(l.drop i).take 1 = [p]:=by
 obtain⟨a,rfl⟩:=AK.mp h;rw[DV a];rfl
theorem Fy(a:HW HY)(i k:Nat):(a.extract i (i+k)).toList =(a.toList.drop i).take k:=by
 rw[ER,EH,Nat.add_sub_cancel_left]
theorem y4(a:HW HY)(i:Nat):(a.extract i a.size).toList=a.toList.drop i:=by
 rw[ER,EH,DU];rw[DK,AS];exact VD _
theorem Ac(a:HW HY)(i:Nat):(a.extract 0 i).toList=a.toList.take i:=by
 rw[ER,EH,EC,Nat.sub_zero]
def Rm(Z:KeyKind)(a b r:HW HY):Prop:=K2 Z r.toList/\r.toList.Perm (a.toList++b.toList)
structure ND(Z:KeyKind)(a b:HW HY):Prop where
 sa:K2 Z a.toList
 sb:K2 Z b.toList
 ka:∀(i:Nat) p,a[i]?=some p->RG Z p
 kb:∀(i:Nat) p,b[i]?=some p->RG Z p
 na:1<=a.size
 nb:1<=b.size
 first:∀q,b[0]?=some q->∀z∈a.toList,le Z q z
 last:∀p,a[a.size-1]?=some p->∀z∈b.toList,le Z z p
section
variable{a b o:HW HY}{i j k:Nat}{p q:HY}
theorem ND.pushB(P:ND Z a b)(m:ML Z a.toList b.toList o.toList i j)(c:b[j]?=some q)(h:∀z∈a.toList.drop i,le Z q z):ML Z a.toList b.toList (o.push q).toList i (j+1):=by
 have d:=m.addB P.sb 1 (by rw[Qr (IH.mp c)];intro y e;rw[AE.mp e];exact h);rw[Qr (IH.mp c)]at d;rw[DE];exact d
theorem ND.pushA(P:ND Z a b)(m:ML Z a.toList b.toList o.toList i j)(c:a[i]?=some p)(h:∀z∈b.toList.drop j,le Z p z):ML Z a.toList b.toList (o.push p).toList (i+1) j:=by
 have d:=m.addA P.sa 1 (by rw[Qr (IH.mp c)];intro y e;rw[AE.mp e];exact h);rw[Qr (IH.mp c)]at d;rw[DE];exact d
theorem ND.extA(P:ND Z a b)(m:ML Z a.toList b.toList o.toList i j)(h:∀y∈(a.toList.drop i).take k,∀z∈b.toList.drop j,le Z y z):ML Z a.toList b.toList (o++a.extract i (i+k)).toList (i+k) j:=by
 rw[BT,Fy];exact m.addA P.sa k h
theorem ND.extB(P:ND Z a b)(m:ML Z a.toList b.toList o.toList i j)(h:∀y∈(b.toList.drop j).take k,∀z∈a.toList.drop i,le Z y z):ML Z a.toList b.toList (o++b.extract j (j+k)).toList i (j+k):=by
 rw[BT,Fy];exact m.addB P.sb k h
theorem ND.doneB(P:ND Z a b)(m:ML Z a.toList b.toList o.toList i j)(d:j=b.size):Rm Z a b (o++a.extract i a.size++b.extract j b.size):=by
 unfold Rm;rw[BT,BT,y4,y4];refine m.endA P.sa P.sb λy _ z c=>?_;rw[EX (by rw[AS];lia)]at c;exact absurd c (by simp)
theorem ND.doneA(P:ND Z a b)(m:ML Z a.toList b.toList o.toList i j)(hi:i=a.size):Rm Z a b (o++a.extract i a.size++b.extract j b.size):=by
 unfold Rm;rw[BT,BT,y4,y4];refine m.endA P.sa P.sb λy c z _=>?_;rw[EX (by rw[AS];lia)]at c;exact absurd c (by simp)
theorem ND.lastA(P:ND Z a b)(m:ML Z a.toList b.toList o.toList i j)(hi:i+1=a.size):Rm Z a b (o++b.extract j b.size++a.extract i a.size):=by
 unfold Rm;rw[BT,BT,y4,y4];refine m.endB P.sa P.sb λy d z f=>?_;obtain⟨t,g,c⟩:=Jp f;rw[AS]at g;have e:i+t=a.size-1:=by lia
 rw[e]at c;exact P.last z (IH.mpr c) y (EQ d)
end
theorem Sm.knd{st a:IA}(h:Sm st a){k:JS}(b:kindOf st=k):kindOf a=k:=h.1.trans b
theorem Af(C:QU prog w A s Z kd){st:IA}{left:Bool}{d:HY}{b:HW HY}{bs n e:Nat}{Q:A5 Nat->IA->Prop}(D:kindOf st=kd)(f:RG Z d)
  (hsz:bs+n<=b.size) (F:∀(i:Nat) p,b[i]?=some p->RG Z p) (G:∀(u v:Nat) p q,u<=v->v<n->b[bs+u]?=some p->b[bs+v]?=some q->le Z p q) (g:e<n)
  (h:∀k,k<=n->(∀(t:Nat) p,t<k->b[bs+t]?=some p->PB Z left d p=true)->(∀(t:Nat) p,k<=t->t<n->b[bs+t]?=some p->PB Z left d p=false)->Q (some k) st) :
  wpS (model prog w) A E s (V8 left d b bs n e) Q st:=by
 have c:∀t,t<n->∃p,b[bs+t]?=some p:=λt e=>o0 (by lia);refine Nr C D f (λt=>match b[bs+t]? with | some p=>PB Z left d p | none=>false) (λi H=>?_) (λi j m y a=>?_) g λk o I J=>?_
 .obtain⟨p,a⟩:=c i H;exact⟨p,a,F _ p a,by rw[a]⟩
 .obtain⟨p,z⟩:=c i (by lia);obtain⟨q,B⟩:=c j y;rw[B]at a;rw[z];have l:=G i j p q m y z B;dsimp only at a⊢;unfold PB at a⊢;cases left with
  | true =>
   simp only[GM]at a⊢;exact KeyOrd.klt_of_kle_of_klt l a
  | false =>
   simp only[BD,CO,Bool.not_eq_true']at a⊢;exact KeyOrd.kle_trans l a
 .refine h k o (λt p e a=>?_) λt p r x a=>?_
  .have:=I t e;rw[a]at this;exact this
  .have:=J t r x;rw[a]at this;exact this
theorem Gb{a p:HY}(h:PB Z false a p=true):le Z p a:=by
 unfold PB at h;show Z.blt (kk Z a) (kk Z p)=false;simpa using h
theorem Cn{a p:HY}(h:PB Z false a p=false):Z.klt (kk Z a) (kk Z p):=by
 unfold PB at h;show Z.blt (kk Z a) (kk Z p)=true;simpa using h
theorem Jo{a p:HY}(h:PB Z true a p=true):Z.klt (kk Z p) (kk Z a):=by
 unfold PB at h;show Z.blt (kk Z p) (kk Z a)=true;simpa using h
theorem Ev{a p:HY}(h:PB Z true a p=false):le Z a p:=by
 unfold PB at h;show Z.blt (kk Z p) (kk Z a)=false;simpa using h
section
variable{α:Type}{Q:α->IA->Prop}{st:IA}
theorem U5{c:Prop}{_:Decidable c}{t e:StateT IA Sem α}(h1:c->wpS (model prog w) A E s t Q st)(h2:¬c->wpS (model prog w) A E s e Q st):wpS (model prog w) A E s (if c then t else e) Q st:=by
 split
 .rename_i h;exact h1 h
 .rename_i h;exact h2 h
theorem Q0{x y:Nat}{t e:StateT IA Sem α}(h1:x=y->wpS (model prog w) A E s t Q st)(h2:x≠y->wpS (model prog w) A E s e Q st):wpS (model prog w) A E s (if(x == y)=true then t else e) Q st :=
 U5 (λh=>h1 (eq_of_beq h)) λh=>h2 λz=>h (beq_iff_eq.mpr z)
theorem Uh{c:Prop}{_:Decidable c}{t:StateT IA Sem α}{F:Nat->StateT IA Sem α}(x:Nat){y:Nat}(h:∀g,wpS (model prog w) A E s (F g) Q st)(e:t=F x):wpS (model prog w) A E s (if c then t else F y) Q st:=by
 subst e;exact U5 (λ_=>h _) λ_=>h _
theorem Fs{c:Prop}{_:Decidable c}{t:StateT IA Sem α}{F:HW HY->Nat->StateT IA Sem α}{o:HW HY}{i:Nat}(R:HW HY->Nat->Prop)(h:∀o i,R o i->wpS (model prog w) A E s (F o i) Q st)
  (a:(∀o i,R o i->wpS (model prog w) A E s (F o i) Q st)->c->wpS (model prog w) A E s t Q st) (b:¬c->R o i):wpS (model prog w) A E s (if c then t else F o i) Q st:=U5 (a h) λz=>h _ _ (b z)
end
theorem Pz{α β:Type}{h:Sem Unit}{i:StateT IA Sem HY}{x0:HY}{b e:Prop}{_:Decidable b}{_:Decidable e}{j k:HY->StateT IA Sem α}{d:HY->IA->β}{n:Nat}{f:Nat->β->StateT IA Sem (ForInStep β)}{g:β->StateT IA Sem α}{Q:α->IA->Prop}{st:IA}
  (m:∀R:Unit->IA->Prop,R () st->wpS (model prog w) A E s (liftM h:StateT IA Sem Unit) R st) (o:∀R:HY->IA->Prop,R x0 st->wpS (model prog w) A E s i R st) (h1:b->wpS (model prog w) A E s (j x0) Q st) (h2:¬b->e->wpS (model prog w) A E s (k x0) Q st)
  (p:¬b->¬e->wpS (model prog w) A E s (forIn [0:n] (d x0 st) f) (λc a=>wpS (model prog w) A E s (g c) Q a) st) :
  wpS (model prog w) A E s ((liftM h:StateT IA Sem Unit) >>= λ_=>i >>= λx=>if b then j x else if e then k x else get >>= λa=>forIn [0:n] (d x a) f >>= g) Q st :=
 wpS_bind (m _ (wpS_bind (o _ (U5 h1 λl=>U5 (h2 l) λq=>wpS_bind (wpS_get (wpS_bind (p l q)))))))
def MR(Z:KeyKind)(a b:HW HY)(st:IA){β:Type}(c:A5 (HW HY)×β)(d:IA):Prop:=Sm st d/\∃r,c.1=some r/\Rm Z a b r
theorem MR.mk{a b r:HW HY}{st d:IA}{β:Type}{c:β}(e:Sm st d)(h:Rm Z a b r):MR Z a b st (some r,c) d:=⟨e,r,rfl,h⟩
structure QC(Z:KeyKind)(a b:HW HY)(n:Nat)(o:HW HY)(i j:Nat):Prop where
 m:ML Z a.toList b.toList o.toList i j
 hi:i+1<a.size
 hj:j<b.size
 hn:n<=i+j
theorem QC.putB{a b o c:HW HY}{n i j:Nat}(h:QC Z a b n o i j)(m:ML Z a.toList b.toList c.toList i (j+1))(e:j+1≠b.size):QC Z a b (n+1) c i (j+1):=⟨m,h.hi,FT h.hj e,E_ h.hn⟩
theorem QC.putA{a b o c:HW HY}{n i j:Nat}(h:QC Z a b n o i j)(m:ML Z a.toList b.toList c.toList (i+1) j)(e:i+1+1≠a.size):QC Z a b (n+1) c (i+1) j:=⟨m,FT h.hi e,h.hj,by rw[Nat.add_right_comm];exact E_ h.hn⟩
theorem QC.mono{a b o:HW HY}{n c i j:Nat}(h:QC Z a b n o i j)(l:c<=n):QC Z a b c o i j:=⟨h.m,h.hi,h.hj,VE l h.hn⟩
def zIj(Z:KeyKind)(a b:HW HY)(st:IA)(n:Nat)(c:A5 (HW HY)×HW HY×Nat×Nat×Nat)(d:IA):Prop:=Sm st d/\∃o i j e,c =(none,o,i,j,e)/\QC Z a b n o i j
def PU(Z:KeyKind)(a b:HW HY)(st:IA)(n:Nat)(c:A5 (HW HY)×HW HY×Nat×Nat×Nat×Nat)(d:IA):Prop:=Sm st d/\∃o i j e f,c =(none,o,i,j,e,f)/\QC Z a b n o i j
def QD(Z:KeyKind)(a b:HW HY)(st:IA)(n:Nat)(c:A5 (HW HY)×HW HY×Nat×Nat×Nat×Nat×Nat)(d:IA):Prop:=Sm st d/\∃o i j e f g,c =(none,o,i,j,e,f,g)/\QC Z a b n o i j
theorem PU.mk{a b o:HW HY}{st c:IA}{n i j d e:Nat}(f:Sm st c)(h:QC Z a b n o i j):PU Z a b st n (none,o,i,j,d,e) c:=⟨f,_,_,_,_,_,rfl,h⟩
theorem QD.mk{a b o:HW HY}{st c:IA}{n i j d e f:Nat}(g:Sm st c)(h:QC Z a b n o i j):QD Z a b st n (none,o,i,j,d,e,f) c:=⟨g,_,_,_,_,_,_,rfl,h⟩
theorem Jq(C:QU prog w A s Z kd){st:IA}{a b:HW HY}{Q:HW HY->IA->Prop}(hk:kindOf st=kd)(P:ND Z a b)
  (h:∀r d,Sm st d->Rm Z a b r->Q r d):wpS (model prog w) A E s (Er a b) Q st:=by
 rw[Jr];obtain⟨b0,O⟩:=o0 (a:=b) (i:=0) P.nb;have m0:ML Z a.toList b.toList (#[]:HW HY).toList 0 0:=⟨by simp,List.Pairwise.nil,λx hx=>absurd hx (by simp),λx hx=>absurd hx (by simp)⟩;have m1:ML Z a.toList b.toList (#[b0]:HW HY).toList 0 1:=by
  have:=P.pushB m0 O (by rw[EC];exact P.first b0 O);simpa using this
 apply Pz (x0:=b0) (λR z=>wpS_lift (DG ⟨rfl,z⟩)) (λR z=>G5 O z)
 case h1=>exact λS=>wpS_pure (h _ _ (Sm.refl _) (P.doneB m1 (eq_of_beq S)))
 case h2=>exact λ_ T=>wpS_pure (h _ _ (Sm.refl _) (P.lastA m1 (eq_of_beq T)))
 intro S T;have p1:QC Z a b 1 #[b0] 0 1:=⟨m1,FT P.na λz=>T (beq_iff_eq.mpr z),FT P.nb λz=>S (beq_iff_eq.mpr z),VD _⟩;refine wpS_mono (wpS_forRange (I:=λx=>zIj Z a b st (x+1)) (Q:=MR Z a b st) ?st ?en ⟨Sm.refl _,_,_,_,_,rfl,p1⟩) ?po
 case po =>
  rintro⟨c1,c2⟩ d ⟨sm,r,e,hr⟩;cases e;exact wpS_pure (h r d sm hr)
 case en =>
  rintro c d ⟨sm,o,i,j,mg,rfl,p⟩;obtain⟨_,h1,h2,h3⟩:=p;exfalso;lia
 case st =>
  rintro x c d _ hx ⟨sm,o,i,j,mg,rfl,p⟩;refine wpS_bind (wpS_mono (wpS_forRange (I:=λ_=>PU Z a b st (x+1)) (Q:=λc d=>MR Z a b st c d\/PU Z a b st (x+1) c d) ?st1 ?en1 (PU.mk sm p)) ?po1)
  case en1=>exact λc st2 z=>.inr z
  case st1 =>
   rintro x2 c st2 _ _ ⟨f,o,i',j',ac,bc,rfl,N⟩;obtain⟨bj,l⟩:=o0 (a:=b) (i:=j') N.hj;obtain⟨ai,n⟩:=o0 (a:=a) (i:=i') (GN N.hi);refine wpS_bind (G5 l (wpS_bind (G5 n (wpS_bind (Iv C (f.knd hk) (P.kb _ _ l) (P.ka _ _ n) ?_)))));refine U5 (λU=>wpS_bind (G5 l ?_)) λU=>wpS_bind (G5 n ?_)
   .have m3:=P.pushB N.m l λz H=>JA (KeyOrd.kle_of_klt U) (Fv P.sa (IH.mp n) z H);refine Q0 (λG=>wpS_pure (.inl (MR.mk f (P.doneB m3 G)))) λG=>?_;have D:=(N.putB m3 G).mono (DM _);exact U5 (λ_=>wpS_pure (.inr (PU.mk f D))) λ_=>wpS_pure (PU.mk f D)
   .have m3:=P.pushA N.m n λz H=>JA (show le Z ai bj from ET.mpr U) (Fv P.sb (IH.mp l) z H);refine Q0 (λG=>wpS_pure (.inl (MR.mk f (P.lastA m3 G)))) λG=>?_;have D:=(N.putA m3 G).mono (DM _);exact U5 (λ_=>wpS_pure (.inr (PU.mk f D))) λ_=>wpS_pure (PU.mk f D)
  case po1 =>
   rintro⟨c1,c2⟩ st2 (⟨f,r,e,hr⟩ | ⟨f,o2,i2,j2,ac,bc,e,N⟩)
   .cases e;exact wpS_pure (MR.mk f hr)
   .cases e;refine wpS_bind (wpS_lift (DG ⟨rfl,?_⟩));refine wpS_bind (wpS_mono (wpS_forRange (I:=λx3=>QD Z a b st (x+1+x3)) (Q:=λc d=>MR Z a b st c d\/QD Z a b st (x+1+1) c d) ?st2 ?en2 (QD.mk f N)) ?po2)
    case en2 =>
     rintro c st3 ⟨F,o',i',j',mg',ac,bc,rfl,D⟩;refine .inr (QD.mk F (D.mono ?_));have:=P.na;lia
    case po2 =>
     rintro⟨c1,c2⟩ st3 (⟨F,r,e,hr⟩ | ⟨F,o',i',j',mg',ac,bc,e,D⟩)
     .cases e;exact wpS_pure (MR.mk F hr)
     .cases e;refine wpS_bind (Z0 F λst4 B=>?_);exact wpS_pure ⟨B,_,_,_,_,rfl,D⟩
    case st2 =>
     rintro x3 c st3 _ _ ⟨F,o3,V,j3,mg3,ac3,bc3,rfl,D⟩;obtain⟨bj,l⟩:=o0 (a:=b) (i:=j3) D.hj;have hi3:V +(a.size-V)<=a.size:=by rw[Nat.add_sub_cancel' (DR (GN D.hi))];exact VD _
     have hj3:=D.hj;apply Uh (mg3-1) (y:=mg3)
     case e=>exact rfl
     intro g;refine wpS_bind (Z0 F λst4 B=>?_);refine wpS_bind (G5 l (wpS_bind (Af C (B.knd hk) (P.kb _ _ l) hi3 P.ka (λu v p q W _ G Y=>Aj P.sa (EF W _) (IH.mp G) (IH.mp Y)) (HG (GN D.hi)) λk hk1 k1 k2=>?_)));have m4:ML Z a.toList b.toList (o3++a.extract V (V+k)).toList (V+k) j3:=P.extA D.m λy hy z H=>by
      obtain⟨t,X,e⟩:=Ed hy;exact JA (Gb (k1 t y X (IH.mpr e))) (Fv P.sb (IH.mp l) z H)
     have K:∀z∈a.toList.drop (V+k),le Z bj z:=λz H=>by
      obtain⟨t,X,e⟩:=Jp H;rw[AS]at X;exact KeyOrd.kle_of_klt (Cn (k2 (k+t) z (EK _ _) (by lia) (by rw[<-Nat.add_assoc];exact IH.mpr e)))
     apply Fs (o:=o3) (i:=V) (λo i=>QC Z a b (x+1+x3) o i j3/\∀z∈a.toList.drop i,le Z bj z)
     .rintro o4 i4 ⟨p4,K⟩;refine wpS_bind (G5 l ?_);have m5:=P.pushB p4.m l K;refine Q0 (λe3=>wpS_pure (.inl (MR.mk B (P.doneB m5 e3)))) λe3=>?_;have L:=p4.putB m5 e3;generalize o4.push bj=o5 at m5 L⊢;generalize j3+1=j5 at m5 L⊢;obtain⟨ai,n⟩:=o0 (a:=a) (i:=i4) (GN L.hi);refine wpS_bind (G5 n (wpS_bind (Af C (B.knd hk) (P.ka _ _ n) (by rw[Nat.add_sub_cancel' (DR L.hj)];exact VD _) P.kb (λu v p q W _ G Y=>Aj P.sb (EF W _) (IH.mp G) (IH.mp Y)) (HG L.hj) λk' hk1' k1' k2'=>?_)));have M:∀z∈b.toList.drop (j5+k'),le Z ai z:=λz H=>by
       obtain⟨t,X,e⟩:=Jp H;rw[AS]at X;exact Ev (k2' (k'+t) z (EK _ _) (by lia) (by rw[<-Nat.add_assoc];exact IH.mpr e))
      apply Fs (o:=o5) (i:=j5) (λo j=>QC Z a b (x+1+x3+1) o i4 j/\∀z∈b.toList.drop j,le Z ai z)
      .rintro o6 j6 ⟨p6,M⟩;refine wpS_bind (G5 n ?_);have m7:=P.pushA p6.m n M;refine Q0 (λe5=>wpS_pure (.inl (MR.mk B (P.lastA m7 e5)))) λe5=>?_;have p7:=p6.putA m7 e5;exact U5 (λ_=>wpS_pure (.inr (QD.mk B (p7.mono (by lia))))) λ_=>wpS_pure (QD.mk B (p7.mono (by lia)))
      .intro hF J;have m6:ML Z a.toList b.toList (o5++b.extract j5 (j5+k')).toList i4 (j5+k'):=P.extB m5 λy hy z H=>by
        obtain⟨t,X,e⟩:=Ed hy;exact JA (KeyOrd.kle_of_klt (Jo (k1' t y X (IH.mpr e)))) (Fv P.sa (IH.mp n) z H)
       have hj5:=L.hj;exact Q0 (λe4=>wpS_pure (.inl (MR.mk B (P.doneB m6 e4)))) λe4=>hF _ _ ⟨⟨m6,L.hi,by lia,VE L.hn (by lia)⟩,M⟩
      .intro J;have z0:k'=0:=FU J;subst z0;exact⟨L,M⟩
     .intro hF J;have hi:=D.hi;exact Q0 (λG=>wpS_pure (.inl (MR.mk B (P.lastA m4 G)))) λG=>Q0 (λY=>wpS_pure (.inl (MR.mk B (P.doneA m4 Y)))) λY=>hF _ _ ⟨⟨m4,by lia,D.hj,VE D.hn (by lia)⟩,K⟩
     .intro J;have z0:k=0:=FU J;subst z0;exact⟨D,K⟩
def Ey:HW HY->HW HY->StateT IA Sem (HW HY):=sortPriv% PySem.Builtin.mergeHi
theorem Kj(a b:HW HY):Ey a b =(do
  rule "list.sort.merge-hi"
  let f:=a.size+b.size
  let e (o:HW HY) (i j:Nat):=a.extract 0 i++b.extract 0 j++o.reverse
  let l (o:HW HY) (i j:Nat):=b.extract 0 j++a.extract 0 i++o.reverse
  let mut i:=a.size-1
  let mut j:=b.size
  let mut o:HW HY:=#[<-elem' a i]
  if i == 0 then return e o i j
  if j == 1 then return l o i j
  let mut d:=gallopOf (<-get)
  for _ in [0:f] do
   let mut g:=0
   let mut h:=0
   for _ in [0:f] do
    let some m <-lt' (<-elem' b (j-1)) (<-elem' a (i-1)) | return e o i j
    if m then
     i:=i-1;o:=o.push (<-elem' a i);g:=g+1;h:=0
     if i == 0 then return e o i j
     if g ≥ d then break
    else
     j:=j-1;o:=o.push (<-elem' b j);h:=h+1;g:=0
     if j == 1 then return l o i j
     if h ≥ d then break
   rule "list.sort.gallop"
   d:=d+1
   for _ in [0:f] do
    if d>1 then d:=d-1
    Bw d
    let some c <-V8 false (<-elem' b (j-1)) a 0 i (i-1) | return e o i j
    let k:=i-c
    g:=k
    if k>0 then
     o:=o ++(a.extract c i).reverse;i:=c
     if i == 0 then return e o i j
    j:=j-1;o:=o.push (<-elem' b j)
    if j == 1 then return l o i j
    let some c <-V8 true (<-elem' a (i-1)) b 0 j (j-1) | return e o i j
    let k:=j-c
    h:=k
    if k>0 then
     o:=o ++(b.extract c j).reverse;j:=c
     if j == 1 then return l o i j
     if j == 0 then return e o i j
    i:=i-1;o:=o.push (<-elem' a i)
    if i == 0 then return e o i j
    if g<7&&h<7 then break
   d:=d+1
   Bw d
  unsupported "internal:list.sort.merge-bound"):=rfl
abbrev OT(Z:KeyKind)(a b o:HW HY)(i j:Nat):Prop:=MH Z a.toList b.toList o.toList.reverse i j
section
variable{a b o:HW HY}{i j k:Nat}{p q:HY}
theorem td1{l:A0 HY}{i:Nat}{p:HY}(hi:1<=i)(h:l[i-1]?=some p):(l.take i).drop (i-1) = [p]:=by
 rw[GO,show i-(i-1)=1 by lia];exact Qr h
theorem Jx(a:HW HY)(k i:Nat):(a.extract k i).toList =(a.toList.take i).drop k:=by
 rw[ER,EH,GO]
theorem Fg{l:A0 HY}(h:K2 Z l){i:Nat}{p:HY}(a:l[i-1]?=some p):∀z∈l.take i,le Z z p:=λz b=>by
 obtain⟨t,c,_,e⟩:=Oz b;exact Aj h (by lia) e a
theorem ND.hpA(P:ND Z a b)(m:OT Z a b o i j)(hi:1<=i)(c:a[i-1]?=some p)(h:∀z∈b.toList.take j,le Z z p):OT Z a b (o.push p) (i-1) j:=by
 have d:=m.addA P.sa (i-1) (by lia) (by rw[td1 hi (IH.mp c)];intro y e;rw[AE.mp e];exact h);rw[td1 hi (IH.mp c)]at d;unfold OT;rw[DE,GZ];exact d
theorem ND.hpB(P:ND Z a b)(m:OT Z a b o i j)(c:1<=j)(d:b[j-1]?=some q)(h:∀z∈a.toList.take i,le Z z q):OT Z a b (o.push q) i (j-1):=by
 have e:=m.addB P.sb (j-1) (by lia) (by rw[td1 c (IH.mp d)];intro y f;rw[AE.mp f];exact h);rw[td1 c (IH.mp d)]at e;unfold OT;rw[DE,GZ];exact e
theorem ND.heA(P:ND Z a b)(m:OT Z a b o i j)(c:k<=i)(h:∀y∈(a.toList.take i).drop k,∀z∈b.toList.take j,le Z z y):OT Z a b (o ++(a.extract k i).reverse) k j:=by
 unfold OT;rw[BT,FH,GZ,List.reverse_reverse,Jx];exact m.addA P.sa k c h
theorem ND.heB(P:ND Z a b)(m:OT Z a b o i j)(c:k<=j)(h:∀y∈(b.toList.take j).drop k,∀z∈a.toList.take i,le Z z y):OT Z a b (o ++(b.extract k j).reverse) i k:=by
 unfold OT;rw[BT,FH,GZ,List.reverse_reverse,Jx];exact m.addB P.sb k c h
theorem ND.hdA(P:ND Z a b)(m:OT Z a b o i j)(hi:i=0):Rm Z a b (a.extract 0 i++b.extract 0 j++o.reverse):=by
 unfold Rm;rw[BT,BT,FH,Ac,Ac];refine m.endA P.sa P.sb λy c z _=>?_;rw[hi,List.take_zero]at c;exact absurd c (by simp)
theorem ND.hdB(P:ND Z a b)(m:OT Z a b o i j)(d:j=0):Rm Z a b (a.extract 0 i++b.extract 0 j++o.reverse):=by
 unfold Rm;rw[BT,BT,FH,Ac,Ac];refine m.endA P.sa P.sb λy _ z c=>?_;rw[d,List.take_zero]at c;exact absurd c (by simp)
theorem ND.hfB(P:ND Z a b)(m:OT Z a b o i j)(g:j=1):Rm Z a b (b.extract 0 j++a.extract 0 i++o.reverse):=by
 unfold Rm;rw[BT,BT,FH,Ac,Ac];refine m.endB P.sa P.sb λy c z d=>?_;obtain⟨t,h,_,e⟩:=Oz c;have f:t=0:=by lia
 rw[f]at e;exact P.first y (IH.mpr e) z (DF d)
end
structure OQ(Z:KeyKind)(a b:HW HY)(n:Nat)(o:HW HY)(i j:Nat):Prop where
 m:OT Z a b o i j
 hi:1<=i
 hj:2<=j
 ia:i<=a.size
 jb:j<=b.size
 hn:n+i+j<=a.size+b.size
theorem OQ.putA{a b o c:HW HY}{n i j:Nat}(h:OQ Z a b n o i j)(m:OT Z a b c (i-1) j)(e:i-1≠0):OQ Z a b (n+1) c (i-1) j:=by
 obtain⟨_,g,d,k,f,l⟩:=h;exact⟨m,by lia,d,by lia,f,by lia⟩
theorem OQ.putB{a b o c:HW HY}{n i j:Nat}(h:OQ Z a b n o i j)(m:OT Z a b c i (j-1))(e:j-1≠1):OQ Z a b (n+1) c i (j-1):=by
 obtain⟨_,d,g,f,k,l⟩:=h;exact⟨m,d,by lia,f,by lia,by lia⟩
theorem OQ.mono{a b o:HW HY}{n c i j:Nat}(h:OQ Z a b n o i j)(l:c<=n):OQ Z a b c o i j:=⟨h.m,h.hi,h.hj,h.ia,h.jb,VE (Nat.add_le_add_right (Nat.add_le_add_right l _) _) h.hn⟩
theorem OQ.la{a b o:HW HY}{n i j:Nat}(h:OQ Z a b n o i j):i-1<a.size:=BI (Nat.sub_lt h.hi (HD)) h.ia
theorem OQ.lb{a b o:HW HY}{n i j:Nat}(h:OQ Z a b n o i j):j-1<b.size:=BI (Nat.sub_lt (GN h.hj) (HD)) h.jb
theorem OQ.hj1{a b o:HW HY}{n i j:Nat}(h:OQ Z a b n o i j):1<=j:=Nat.le_of_succ_le h.hj
def zIo(Z:KeyKind)(a b:HW HY)(st:IA)(n:Nat)(c:A5 (HW HY)×Nat×Nat×HW HY×Nat)(d:IA):Prop:=Sm st d/\∃i j o e,c =(none,i,j,o,e)/\OQ Z a b n o i j
def PV(Z:KeyKind)(a b:HW HY)(st:IA)(n:Nat)(c:A5 (HW HY)×Nat×Nat×HW HY×Nat×Nat)(d:IA):Prop:=Sm st d/\∃i j o e f,c =(none,i,j,o,e,f)/\OQ Z a b n o i j
def QE(Z:KeyKind)(a b:HW HY)(st:IA)(n:Nat)(c:A5 (HW HY)×Nat×Nat×HW HY×Nat×Nat×Nat)(d:IA):Prop:=Sm st d/\∃i j o e f g,c =(none,i,j,o,e,f,g)/\OQ Z a b n o i j
theorem PV.mk{a b o:HW HY}{st c:IA}{n i j d e:Nat}(f:Sm st c)(h:OQ Z a b n o i j):PV Z a b st n (none,i,j,o,d,e) c:=⟨f,_,_,_,_,_,rfl,h⟩
theorem QE.mk{a b o:HW HY}{st c:IA}{n i j d e f:Nat}(g:Sm st c)(h:OQ Z a b n o i j):QE Z a b st n (none,i,j,o,d,e,f) c:=⟨g,_,_,_,_,_,_,rfl,h⟩
theorem Kv(C:QU prog w A s Z kd){st:IA}{a b:HW HY}{Q:HW HY->IA->Prop}(hk:kindOf st=kd)(P:ND Z a b)
  (h:∀r f,Sm st f->Rm Z a b r->Q r f):wpS (model prog w) A E s (Ey a b) Q st:=by
 rw[Kj];have hna:=P.na;have hnb:=P.nb;obtain⟨b0,U⟩:=o0 (a:=a) (i:=a.size-1) (Nat.sub_lt hna HD);have m0:OT Z a b (#[]:HW HY) a.size b.size:=⟨by simp,List.Pairwise.nil,λx hx=>absurd hx (by simp),λx hx=>absurd hx (by simp)⟩;have m1:OT Z a b (#[b0]:HW HY) (a.size-1) b.size:=by
  have:=P.hpA m0 hna U (λz J=>P.last b0 U z (DF J));simpa using this
 apply Pz (x0:=b0) (λR z=>wpS_lift (DG ⟨rfl,z⟩)) (λR z=>G5 U z)
 case h1=>exact λN=>wpS_pure (h _ _ (Sm.refl _) (P.hdA m1 (eq_of_beq N)))
 case h2=>exact λ_ O=>wpS_pure (h _ _ (Sm.refl _) (P.hfB m1 (eq_of_beq O)))
 intro N O;have N:¬a.size-1=0:=λz=>N (beq_iff_eq.mpr z);have O:¬b.size=1:=λz=>O (beq_iff_eq.mpr z);have p1:OQ Z a b 1 #[b0] (a.size-1) b.size:=⟨m1,by lia,by lia,by lia,by lia,by lia⟩;refine wpS_mono (wpS_forRange (I:=λx=>zIo Z a b st (x+1)) (Q:=MR Z a b st) ?st ?en ⟨Sm.refl _,_,_,_,_,rfl,p1⟩) ?po
 case po =>
  rintro⟨c1,c2⟩ f ⟨sm,r,e,hr⟩;cases e;exact wpS_pure (h r f sm hr)
 case en =>
  rintro c f ⟨sm,i,j,o,mg,rfl,p⟩;obtain⟨_,h1,h2,_,_,h3⟩:=p;exfalso;lia
 case st =>
  rintro x c f _ hx ⟨sm,i,j,o,mg,rfl,p⟩;refine wpS_bind (wpS_mono (wpS_forRange (I:=λ_=>PV Z a b st (x+1)) (Q:=λc f=>MR Z a b st c f\/PV Z a b st (x+1) c f) ?st1 ?en1 (PV.mk sm p)) ?po1)
  case en1=>exact λc st2 z=>.inr z
  case st1 =>
   rintro x2 c st2 _ _ ⟨l,i',j',o,ac,bc,rfl,M⟩;obtain⟨bj,n⟩:=o0 (a:=b) (i:=j' - 1) M.lb;obtain⟨ai,B⟩:=o0 (a:=a) (i:=i' - 1) M.la;refine wpS_bind (G5 n (wpS_bind (G5 B (wpS_bind (Iv C (l.knd hk) (P.kb _ _ n) (P.ka _ _ B) ?_)))));refine U5 (λV=>wpS_bind (G5 B ?_)) λV=>wpS_bind (G5 n ?_)
   .have m3:=P.hpA M.m M.hi B λz J=>JA (Fg P.sb (IH.mp n) z J) (KeyOrd.kle_of_klt V);refine Q0 (λH=>wpS_pure (.inl (MR.mk l (P.hdA m3 H)))) λH=>?_;have F:=(M.putA m3 H).mono (DM _);exact U5 (λ_=>wpS_pure (.inr (PV.mk l F))) λ_=>wpS_pure (PV.mk l F)
   .have m3:=P.hpB M.m M.hj1 n λz J=>JA (Fg P.sa (IH.mp B) z J) (show le Z ai bj from ET.mpr V);refine Q0 (λH=>wpS_pure (.inl (MR.mk l (P.hfB m3 H)))) λH=>?_;have F:=(M.putB m3 H).mono (DM _);exact U5 (λ_=>wpS_pure (.inr (PV.mk l F))) λ_=>wpS_pure (PV.mk l F)
  case po1 =>
   rintro⟨c1,c2⟩ st2 (⟨l,r,e,hr⟩ | ⟨l,i2,j2,o2,ac,bc,e,M⟩)
   .cases e;exact wpS_pure (MR.mk l hr)
   .cases e;refine wpS_bind (wpS_lift (DG ⟨rfl,?_⟩));refine wpS_bind (wpS_mono (wpS_forRange (I:=λx3=>QE Z a b st (x+1+x3)) (Q:=λc f=>MR Z a b st c f\/QE Z a b st (x+1+1) c f) ?st2 ?en2 (QE.mk l M)) ?po2)
    case en2 =>
     rintro c st3 ⟨G,i',j',o',mg',ac,bc,rfl,F⟩;exact .inr (QE.mk G (F.mono (by lia)))
    case po2 =>
     rintro⟨c1,c2⟩ st3 (⟨G,r,e,hr⟩ | ⟨G,i',j',o',mg',ac,bc,e,F⟩)
     .cases e;exact wpS_pure (MR.mk G hr)
     .cases e;refine wpS_bind (Z0 G λst4 D=>?_);exact wpS_pure ⟨D,_,_,_,_,rfl,F⟩
    case st2 =>
     rintro x3 c st3 _ _ ⟨G,i3,j3,o3,mg3,ac3,bc3,rfl,F⟩;obtain⟨bj,n⟩:=o0 (a:=b) (i:=j3-1) F.lb;apply Uh (mg3-1) (y:=mg3)
     case e=>exact rfl
     intro g;refine wpS_bind (Z0 G λst4 D=>?_);refine wpS_bind (G5 n (wpS_bind (Af C (D.knd hk) (P.kb _ _ n) (by rw[EM];exact F.ia) P.ka (λu v p q W _ H e2=>Aj P.sa (EF W _) (IH.mp H) (IH.mp e2)) (Nat.sub_lt F.hi HD) λk X k1 k2=>?_)));dsimp only;have m4:OT Z a b (o3 ++(a.extract k i3).reverse) k j3:=P.heA F.m X λy hy z J=>by
      obtain⟨t,Y,ht2,e⟩:=Xh hy;exact JA (Fg P.sb (IH.mp n) z J) (KeyOrd.kle_of_klt (Cn (k2 t y Y ht2 (by rw[EM];exact IH.mpr e))))
     have S:∀z∈a.toList.take k,le Z z bj:=λz J=>by
      obtain⟨t,ht,_,e⟩:=Oz J;exact Gb (k1 t z ht (by rw[EM];exact IH.mpr e))
     generalize hd:i3-k=d;apply Fs (o:=o3) (i:=i3) (λo i=>OQ Z a b (x+1+x3) o i j3/\∀z∈a.toList.take i,le Z z bj)
     .rintro o4 i4 ⟨p4,S⟩;refine wpS_bind (G5 n ?_);have m5:=P.hpB p4.m p4.hj1 n S;refine Q0 (λe3=>wpS_pure (.inl (MR.mk D (P.hfB m5 e3)))) λe3=>?_;have p5:=p4.putB m5 e3;generalize o4.push bj=o5 at m5 p5⊢;generalize j3-1=j5 at m5 p5⊢;obtain⟨ai,B⟩:=o0 (a:=a) (i:=i4-1) p5.la;refine wpS_bind (G5 B (wpS_bind (Af C (D.knd hk) (P.ka _ _ B) (by rw[EM];exact p5.jb) P.kb (λu v p q W _ H e2=>Aj P.sb (EF W _) (IH.mp H) (IH.mp e2)) (Nat.sub_lt p5.hj1 HD) λk' K k1' k2'=>?_)));dsimp only;have T:∀z∈b.toList.take k',le Z z ai:=λz J=>by
       obtain⟨t,ht,_,e⟩:=Oz J;exact KeyOrd.kle_of_klt (Jo (k1' t z ht (by rw[EM];exact IH.mpr e)))
      generalize hd':j5-k'=d';apply Fs (o:=o5) (i:=j5) (λo j=>OQ Z a b (x+1+x3+1) o i4 j/\∀z∈b.toList.take j,le Z z ai)
      .rintro o6 j6 ⟨p6,T⟩;refine wpS_bind (G5 B ?_);have m7:=P.hpA p6.m p6.hi B T;refine Q0 (λe5=>wpS_pure (.inl (MR.mk D (P.hdA m7 e5)))) λe5=>?_;have p7:=p6.putA m7 e5;exact U5 (λ_=>wpS_pure (.inr (QE.mk D (p7.mono (by lia))))) λ_=>wpS_pure (QE.mk D (p7.mono (by lia)))
      .intro hF L;have m6:OT Z a b (o5 ++(b.extract k' j5).reverse) i4 k':=P.heB m5 K λy hy z J=>by
        obtain⟨t,Y,ht2,e⟩:=Xh hy;exact JA (Fg P.sa (IH.mp B) z J) (Ev (k2' t y Y ht2 (by rw[EM];exact IH.mpr e)))
       obtain⟨_,h1,h2,h3,h4,h5⟩:=p5;exact Q0 (λe4=>wpS_pure (.inl (MR.mk D (P.hfB m6 e4)))) λe4=>Q0 (λe5=>wpS_pure (.inl (MR.mk D (P.hdB m6 e5)))) λe5=>hF _ _ ⟨⟨m6,h1,by lia,h3,VE K h4,by lia⟩,T⟩
      .intro L;have z0:k'=j5:=Nat.le_antisymm K (Nat.le_of_sub_eq_zero (hd'.trans (FU L)));subst z0;exact⟨p5,T⟩
     .intro hF L;obtain⟨_,h1,h2,h3,h4,h5⟩:=F;exact Q0 (λH=>wpS_pure (.inl (MR.mk D (P.hdA m4 H)))) λH=>hF _ _ ⟨⟨m4,by lia,h2,VE X h3,h4,by lia⟩,S⟩
     .intro L;have z0:k=i3:=Nat.le_antisymm X (Nat.le_of_sub_eq_zero (hd.trans (FU L)));subst z0;exact⟨F,S⟩
def JL(l:A0 HY)(lo n:Nat):A0 HY:=(l.drop lo).take n
theorem Sv(m:A0 HY)(lo:Nat):∀(n:Nat) (a:HW HY),lo+n+m.length<=a.size ->
  ((m.zipIdx n).foldl (λa (x:HY×Nat)=>a.setIfInBounds (lo+x.2) x.1) a).size=a.size /\
  ∀t:Nat,((m.zipIdx n).foldl (λa (x:HY×Nat)=>a.setIfInBounds (lo+x.2) x.1) a)[t]?=if lo+n<=t/\t<lo+n+m.length then m[t-(lo+n)]? else a[t]?:=by
 induction m with
 | nil =>
  intro n a h;refine⟨rfl,λt=>?_⟩;rw[AI (by simp only[List.length_nil];lia)];rfl
 | cons p m d =>
  intro n a h;rw[BR]at h;rw[List.zipIdx_cons,GA];obtain⟨e,f⟩:=d (n+1) (a.setIfInBounds (lo+n) p) (by rw[HB];lia);refine⟨e.trans HB,λt=>?_⟩;rw[f t,BR];by_cases b:lo+n=t
  .subst b;rw[AI (by lia),AN (by lia),Array.getElem?_setIfInBounds_self_of_lt (by lia),Nat.sub_self];rfl
  .by_cases c:lo +(n+1)<=t/\t<lo +(n+1)+m.length
   .rw[AN c,AN (by lia),show t-(lo+n) =(t-(lo +(n+1)))+1 by lia,List.getElem?_cons_succ]
   .rw[AI c,AI (by lia),Array.getElem?_setIfInBounds_ne b]
theorem Cz(m:A0 HY)(lo:Nat)(a:HW HY)(h:lo+m.length<=a.size) :
  (m.zipIdx.foldl (λa (x:HY×Nat)=>a.setIfInBounds (lo+x.2) x.1) a).toList=a.toList.take lo++m++a.toList.drop (lo+m.length):=by
 obtain⟨e,c⟩:=Sv m lo 0 a (by lia);refine FI λt=>?_;rw[BJ,c t];have b:(a.toList.take lo).length=lo:=by rw[AZ,AS];lia
 by_cases d:t<lo
 .rw[AI (by lia),BG,GX (by lia),DL d,BJ]
 .by_cases f:t<lo+m.length
  .rw[AN (by lia),GX (by rw[AV];lia),GP (by lia),b];rfl
  .rw[AI (by lia),GP (by rw[AV];lia),AV,b,FV,BJ];congr 1;lia
theorem Ra(l:A0 HY)(lo n:Nat):l=l.take lo++JL l lo n++l.drop (lo+n):=by
 unfold JL;rw[BG,<-FB,BX,BX]
theorem Kl(l:A0 HY)(lo n m:Nat):JL l lo (n+m)=JL l lo n++JL l (lo+n) m:=by
 unfold JL;rw[List.take_add,FB]
structure LE(Z:KeyKind)(l l':A0 HY)(lo n:Nat):Prop where
 perm:l'.Perm l
 front:l'.take lo=l.take lo
 back:l'.drop (lo+n)=l.drop (lo+n)
theorem LE.refl(l:A0 HY)(lo n:Nat):LE Z l l lo n:=⟨List.Perm.refl _,rfl,rfl⟩
theorem LE.seg_front{l a:A0 HY}{lo n:Nat}(h:LE Z l a lo n){u m:Nat}(b:u+m<=lo):JL a u m=JL l u m:=by
 have:∀x:A0 HY,JL x u m =((x.take lo).drop u).take m:=λx=>by
  unfold JL;rw[GO,List.take_take,F_ (by lia)]
 rw[this,this,h.front]
theorem LE.seg_back{l a:A0 HY}{lo n:Nat}(h:LE Z l a lo n){u m:Nat}(b:lo+n<=u):JL a u m=JL l u m:=by
 have:∀x:A0 HY,JL x u m =((x.drop (lo+n)).drop (u-(lo+n))).take m:=λx=>by
  unfold JL;rw[FB,show lo+n +(u-(lo+n))=u by lia]
 rw[this,this,h.back]
theorem LE.of{l z:A0 HY}{lo n:Nat}(hz:z.Perm (JL l lo n))(c:lo+n<=l.length):LE Z l (l.take lo++z++l.drop (lo+n)) lo n/\JL (l.take lo++z++l.drop (lo+n)) lo n=z:=by
 have a:(l.take lo).length=lo:=by rw[AZ];lia
 have b:z.length=n:=by
  rw[hz.length_eq];unfold JL;rw[AZ,DK];lia
 refine⟨⟨?_,?_,?_⟩,?_⟩
 .conv=>rhs;rw[Ra l lo n]
  exact DT _ (CZ _ hz)
 .rw[BG,List.take_append_of_le_length (by lia),DU (by lia)]
 .rw[List.drop_append,EX (by rw[AV];lia),GB,AV,a,b,Nat.sub_self,EC]
 .unfold JL;rw[BG,List.drop_append,EX (by lia),GB,a,Nat.sub_self,EC,List.take_append_of_le_length (by lia),DU (by lia)]
structure St(Z:KeyKind)(kd:JS)(a₀:HW HY)(st:IA):Prop where
 perm:(arrOf st).toList.Perm a₀.toList
 kind:kindOf st=kd
 failed:failedOf st=none
theorem St.size{a₀:HW HY}{st:IA}(h:St Z kd a₀ st):(arrOf st).size=a₀.size:=by
 have:=h.perm.length_eq;simpa using this
theorem St.has{a₀:HW HY}{st:IA}(h:St Z kd a₀ st)(b:KeysOf Z a₀)(i:Nat)(p:HY)(e:(arrOf st)[i]?=some p):RG Z p :=
 b p (h.perm.mem_iff.mp (BB (IH.mp e)))
theorem S4{l:A0 HY}{lo n t:Nat}(a:t<n):(JL l lo n)[t]?=l[lo+t]?:=by
 unfold JL;rw[DL a,FV]
theorem Jh(i:Nat):mergeAt' i =(do
  let u <-get
  let(some (b,c,f),some (e,d,_)):=((pendingOf u)[i]?,(pendingOf u)[i+1]?) | unsupported "internal:list.sort.pending"
  set (setPending u (((pendingOf u).setIfInBounds i (b,c+d,f)).eraseIdxIfInBounds (i+1)))
  let some k <-V8 false (<-elem' (arrOf u) e) (arrOf u) b c 0 | return false
  let(b,c):=(b+k,c-k)
  if c == 0 then return true
  let some d <-V8 true (<-elem' (arrOf u) (b+c-1)) (arrOf u) e d (d-1) | return false
  if d == 0 then return true
  let x:=(arrOf u).extract b e
  let y:=(arrOf u).extract e (e+d)
  let g <-if c<=d then Er x y else Ey x y
  modify λv=>setArr v (g.toList.zipIdx.foldl (λa (z:HY×Nat)=>a.setIfInBounds (b+z.2) z.1) (arrOf v))
  return(failedOf (<-get)).isNone):=rfl
theorem Yq{st st2:IA}{Q:PUnit->IA->Prop}(h:Q ⟨⟩ st2):wpS (model prog w) A E s (set st2:StateT IA Sem PUnit) Q st:=by
 unfold wpS;rw[StateT.run_set];exact AD ⟨rfl,h⟩
theorem Jf(C:QU prog w A s Z kd){a₀:HW HY}(L:KeysOf Z a₀){st:IA}{i b c pw sb f pw2:Nat}{Q:Bool->IA->Prop}(j:St Z kd a₀ st)
  (hi:(pendingOf st)[i]?=some (b,c,pw)) (hj:(pendingOf st)[i+1]?=some (sb,f,pw2)) (hsb:sb=b+c) (hsz:sb+f<=a₀.size) (hna:1<=c) (hnb:1<=f)
  (N:K2 Z (JL (arrOf st).toList b c)) (O:K2 Z (JL (arrOf st).toList sb f))
  (h:∀n,St Z kd a₀ n->LE Z (arrOf st).toList (arrOf n).toList b (c+f)->K2 Z (JL (arrOf n).toList b (c+f)) ->
   pendingOf n =((pendingOf st).setIfInBounds i (b,c+f,pw)).eraseIdxIfInBounds (i+1)->Q true n):wpS (model prog w) A E s (mergeAt' i) Q st:=by
 subst hsb;have hL:(arrOf st).toList.length=a₀.size:=by rw[AS];exact j.size
 have hsz':=j.size;rw[Jh];refine wpS_bind (wpS_get ?_);rw[hi,hj];dsimp only;refine wpS_bind (Yq ?_);obtain⟨R,D⟩:=o0 (a:=arrOf st) (i:=b+c) (by lia);have S:∀u v p q,u<=v->v<c->(arrOf st)[b+u]?=some p->(arrOf st)[b+v]?=some q->le Z p q:=λu v p q H hv T F =>
  Aj N H (by rw[S4 (by lia)];exact IH.mp T) (by rw[S4 hv];exact IH.mp F)
 have U:∀u v p q,u<=v->v<f->(arrOf st)[b+c+u]?=some p->(arrOf st)[b+c+v]?=some q->le Z p q:=λu v p q H hv T F =>
  Aj O H (by rw[S4 (by lia)];exact IH.mp T) (by rw[S4 hv];exact IH.mp F)
 refine wpS_bind (G5 D (wpS_bind (Af C j.kind (j.has L _ _ D) (by lia) (j.has L) S (by lia) λk hk1 k1 k2=>?_)));dsimp only;have V:∀z∈JL (arrOf st).toList (b+c) f,le Z R z:=λz I=>by
  obtain⟨t,l,e⟩:=Ed I;exact U 0 t R z (by lia) l D (IH.mpr e)
 have xk:∀x∈(JL (arrOf st).toList b c).take k,le Z x R:=λx hx=>by
  obtain⟨t,l,o,e⟩:=Oz hx;unfold JL at o;rw[AZ]at o;rw[S4 (by lia)]at e;exact Gb (k1 t x l (IH.mpr e))
 have kx:∀x∈(JL (arrOf st).toList b c).drop k,le Z R x:=λx hx=>by
  obtain⟨t,l,e⟩:=Jp hx;unfold JL at l;rw[AZ]at l;rw[S4 (by lia)]at e;exact KeyOrd.kle_of_klt (Cn (k2 (k+t) x (by lia) (by lia) (IH.mpr e)))
 have W:St Z kd a₀ (setPending st (((pendingOf st).setIfInBounds i (b,c+f,pw)).eraseIdxIfInBounds (i+1))):=⟨j.perm,j.kind,j.failed⟩;by_cases X:c-k=0
 .rw[AN (by simpa using X)];have hkk:k=c:=by lia
  refine wpS_pure (h _ W (LE.refl _ _ _) ?_ rfl);show K2 Z (JL (arrOf st).toList b (c+f));rw[Kl];refine CP.mpr ⟨N,O,λx hx y hy=>JA (xk x ?_) (V y hy)⟩;rw[DU (by unfold JL;rw[AZ];lia)];exact hx
 rw[AI (by simpa using X)];obtain⟨M,J⟩:=o0 (a:=arrOf st) (i:=b+k +(c-k)-1) (by lia);refine wpS_bind (G5 J (wpS_bind (Af C W.kind (j.has L _ _ J) (by lia) (j.has L) U (by lia) λg Y k1' k2'=>?_)));dsimp only;have G:(arrOf st)[b +(c-1)]?=some M:=by rw[show b +(c-1)=b+k +(c-k)-1 by lia];exact J
 have K:∀x∈JL (arrOf st).toList b c,le Z x M:=λx hx=>by
  obtain⟨t,l,e⟩:=Ed hx;exact S t (c-1) x M (by lia) (by lia) (IH.mpr e) G
 have yk:∀y∈(JL (arrOf st).toList (b+c) f).take g,le Z y M:=λy hy=>by
  obtain⟨t,l,o,e⟩:=Oz hy;unfold JL at o;rw[AZ]at o;rw[S4 (by lia)]at e;exact KeyOrd.kle_of_klt (Jo (k1' t y l (IH.mpr e)))
 have ky:∀y∈(JL (arrOf st).toList (b+c) f).drop g,le Z M y:=λy hy=>by
  obtain⟨t,l,e⟩:=Jp hy;unfold JL at l;rw[AZ]at l;rw[S4 (by lia)]at e;exact Ev (k2' (g+t) y (by lia) (by lia) (IH.mpr e))
 by_cases B:g=0
 .rw[AN (by simpa using B)];refine wpS_pure (h _ W (LE.refl _ _ _) ?_ rfl);show K2 Z (JL (arrOf st).toList b (c+f));rw[Kl];refine CP.mpr ⟨N,O,λx hx y hy=>JA (K x hx) (ky y ?_)⟩;rw[B,EC];exact hy
 rw[AI (by simpa using B)];have ex:((arrOf st).extract (b+k) (b+c)).toList =(JL (arrOf st).toList b c).drop k:=by
  rw[Jx];unfold JL;rw[GO,GO,FB];congr 1;lia
 have ey:((arrOf st).extract (b+c) (b+c+g)).toList =(JL (arrOf st).toList (b+c) f).take g:=by
  rw[Fy];unfold JL;rw[List.take_take,F_ Y]
 have P:ND Z ((arrOf st).extract (b+k) (b+c)) ((arrOf st).extract (b+c) (b+c+g)):=by
  refine⟨by rw[ex];exact N.sublist (FG _ _),by rw[ey];exact O.sublist (ES _ _),λt p e=>?_,λt p e=>?_,?_,?_,λq e z I=>?_,λp e z I=>?_⟩
  .have m:=BB (IH.mp e);rw[ex]at m;obtain⟨u,_,F⟩:=Ed (EQ m);exact j.has L _ p (IH.mpr F)
  .have m:=BB (IH.mp e);rw[ey]at m;obtain⟨u,_,F⟩:=Ed (DF m);exact j.has L _ p (IH.mpr F)
  .rw[FW];lia
  .rw[FW];lia
  .have m:=IH.mp e;rw[ey,DL (by lia),S4 (by lia)]at m;have:q=R:=by
    have:=IH.mp D;rw[Nat.add_zero,this]at m;exact(BU m).symm
   subst this;rw[ex]at I;exact kx z I
  .have m:=IH.mp e;rw[ex,FW,FV,S4 (by lia)]at m;have:p=M:=by
    have q:=IH.mp G;rw[show k +(min (b+c) (arrOf st).size-(b+k)-1)=c-1 by lia,q]at m;exact(BU m).symm
   subst this;rw[ey]at I;exact yk z I
 have fin:∀(r:HW HY) (d:IA),Sm (setPending st (((pendingOf st).setIfInBounds i (b,c+f,pw)).eraseIdxIfInBounds (i+1))) d->Rm Z ((arrOf st).extract (b+k) (b+c)) ((arrOf st).extract (b+c) (b+c+g)) r ->
   Q (failedOf (setArr d (r.toList.zipIdx.foldl (λa (z:HY×Nat)=>a.setIfInBounds (b+k+z.2) z.1) (arrOf d)))).isNone (setArr d (r.toList.zipIdx.foldl (λa (z:HY×Nat)=>a.setIfInBounds (b+k+z.2) z.1) (arrOf d))):=by
  rintro r d ⟨q1,q2,q3,q4⟩ ⟨r1,r2⟩;rw[ex,ey]at r2;have hrl:r.toList.length =(c-k)+g:=by
   rw[r2.length_eq,AV];unfold JL;rw[DK,AZ,AZ,DK,AZ,DK];lia
  have q2':arrOf d=arrOf st:=q2;have ef:failedOf (setArr d (r.toList.zipIdx.foldl (λa (z:HY×Nat)=>a.setIfInBounds (b+k+z.2) z.1) (arrOf d)))=none:=q4.trans j.failed;rw[ef];have el:=Cz r.toList (b+k) (arrOf d) (by rw[q2'];lia);have eq:(r.toList.zipIdx.foldl (λa (z:HY×Nat)=>a.setIfInBounds (b+k+z.2) z.1) (arrOf d)).toList =(arrOf st).toList.take b ++((JL (arrOf st).toList b c).take k++r.toList ++(JL (arrOf st).toList (b+c) f).drop g) ++(arrOf st).toList.drop (b +(c+f)):=by
   rw[el,q2',hrl];have T:(arrOf st).toList.take (b+k) =(arrOf st).toList.take b ++(JL (arrOf st).toList b c).take k:=by
    unfold JL;rw[List.take_add,List.take_take,F_ hk1]
   have F:(arrOf st).toList.drop (b+k +(c-k+g)) =(JL (arrOf st).toList (b+c) f).drop g ++(arrOf st).toList.drop (b +(c+f)):=by
    unfold JL;rw[GO,FB,show b+k +(c-k+g)=b+c+g by lia]
    conv=>lhs;rw[<-BX (f-g) ((arrOf st).toList.drop (b+c+g))]
    rw[FB,show b+c+g +(f-g)=b +(c+f) by lia]
   rw[T,F];simp only[BG]
  have hp:((JL (arrOf st).toList b c).take k++r.toList ++(JL (arrOf st).toList (b+c) f).drop g).Perm (JL (arrOf st).toList b (c+f)):=by
   rw[Kl];have a1:((JL (arrOf st).toList b c).take k++r.toList ++(JL (arrOf st).toList (b+c) f).drop g).Perm ((JL (arrOf st).toList b c).take k ++((JL (arrOf st).toList b c).drop k ++(JL (arrOf st).toList (b+c) f).take g) ++(JL (arrOf st).toList (b+c) f).drop g) :=
    DT _ (CZ _ r2)
   refine a1.trans (FE ?_);rw[<-BG,BX,BG,BX]
  obtain⟨pa,ps⟩:=LE.of (Z:=Z) hp (by rw[hL];lia);have hs:K2 Z ((JL (arrOf st).toList b c).take k++r.toList ++(JL (arrOf st).toList (b+c) f).drop g):=by
   refine CP.mpr ⟨CP.mpr ⟨N.sublist (ES _ _),r1,λx hx y hy=>?_⟩,O.sublist (FG _ _),λx hx y hy=>?_⟩
   .rcases AO.mp (r2.mem_iff.mp hy)with hy | hy
    .exact JA (xk x hx) (kx y hy)
    .exact JA (xk x hx) (V y (DF hy))
   .rcases AO.mp hx with hx | hx
    .exact JA (K x (DF hx)) (ky y hy)
    .rcases AO.mp (r2.mem_iff.mp hx)with hx | hx
     .exact JA (K x (EQ hx)) (ky y hy)
     .exact JA (yk x hx) (ky y hy)
  refine h _ ⟨?_,q1.trans j.kind,q4.trans j.failed⟩ ?_ ?_ q3
  .show(r.toList.zipIdx.foldl (λa (z:HY×Nat)=>a.setIfInBounds (b+k+z.2) z.1) (arrOf d)).toList.Perm a₀.toList;rw[eq];exact pa.perm.trans j.perm
  .show LE Z (arrOf st).toList (r.toList.zipIdx.foldl (λa (z:HY×Nat)=>a.setIfInBounds (b+k+z.2) z.1) (arrOf d)).toList b (c+f);rw[eq];exact pa
  .show K2 Z (JL (r.toList.zipIdx.foldl (λa (z:HY×Nat)=>a.setIfInBounds (b+k+z.2) z.1) (arrOf d)).toList b (c+f));rw[eq,ps];exact hs
 by_cases hab:c-k<=g
 .rw[AN hab];refine wpS_bind (Jq C W.kind P λr d q r1=>?_);exact wpS_bind (wpS_modify (wpS_bind (wpS_get (wpS_pure (fin r d q r1)))))
 .rw[AI hab];refine wpS_bind (Kv C W.kind P λr d q r1=>?_);exact wpS_bind (wpS_modify (wpS_bind (wpS_get (wpS_pure (fin r d q r1)))))
section
variable{prog:HX}{w:HZ}{A:IE}{E:A2->A4->Prop}{s:A4}{Z:KeyKind}{kd:JS}{a₀:HW HY}
theorem Vq{xs:HW HY}{i:Nat}{p:HY}(h:xs[i]?=some p):KK Z xs i=kk Z p:=by unfold KK kk;rw[h]
def SI(Z:KeyKind)(xs:HW HY)(lo m:Nat):Prop:=∀i j,i<=j->j<m->Z.kle (KK Z xs (lo+i)) (KK Z xs (lo+j))
def NI(Z:KeyKind)(xs:HW HY)(lo m:Nat):Prop:=∀i j,i<=j->j<m->Z.kle (KK Z xs (lo+j)) (KK Z xs (lo+i))
theorem SI.sor{xs:HW HY}{lo m:Nat}(h:SI Z xs lo m):K2 Z (JL xs.toList lo m):=by
 refine List.pairwise_iff_getElem.mpr λi j a b c=>?_;unfold JL at a b;rw[AZ]at a b;have d:xs[lo+i]?=some (JL xs.toList lo m)[i]:=by
  rw[IH,<-S4 (n:=m) (by lia)];exact AF _
 have e:xs[lo+j]?=some (JL xs.toList lo m)[j]:=by
  rw[IH,<-S4 (n:=m) (by lia)];exact AF _
 have:=h i j (by lia) (by lia);rw[Vq d,Vq e]at this;exact this
structure Lo(Z:KeyKind)(kd:JS)(a₀:HW HY)(st0:IA)(lo n:Nat)(st:IA):Prop where
 S:St Z kd a₀ st
 pend:pendingOf st=pendingOf st0
 out:∀t,t<lo\/lo+n<=t->(arrOf st)[t]? =(arrOf st0)[t]?
theorem Lo.part{st0 st:IA}{lo n:Nat}(h:Lo Z kd a₀ st0 lo n st)(c:St Z kd a₀ st0):LE Z (arrOf st0).toList (arrOf st).toList lo n:=by
 refine⟨h.S.perm.trans c.perm.symm,FI λt=>?_,FI λt=>?_⟩
 .by_cases b:t<lo
  .rw[DL b,DL b,BJ,BJ];exact h.out t (.inl b)
  .rw[GJ (by rw[AZ];lia),GJ (by rw[AZ];lia)]
 .rw[FV,FV,BJ,BJ];exact h.out _ (.inr (by lia))
theorem Lo.mirror{st0 st:IA}{lo n i j:Nat}(h:Lo Z kd a₀ st0 lo n st)(hi:lo<=i)(c:j<=lo+n)(d:lo+n<=a₀.size):Lo Z kd a₀ st0 lo n (setArr st (mirror (arrOf st) i j ((j-i) / 2))):=by
 refine⟨⟨(Array.perm_iff_toList_perm.mp (mirror_perm _ _ _ _)).trans h.S.perm,h.S.kind,h.S.failed⟩,h.pend,λt b=>?_⟩;show(PyProof.Rows.mirror (arrOf st) i j ((j-i) / 2))[t]?=_;have:=h.S.size;rw[getElem?_mirror_all (by lia),AI (by lia)];exact h.out t b
theorem T3(C:QU prog w A s Z kd)(e:KeysOf Z a₀){st:IA}(b:St Z kd a₀ st){i j:Nat}{Q:A5 Bool->IA->Prop}(hi:i<a₀.size)(f:j<a₀.size)
  (h:Q (some (Z.blt (KK Z (arrOf st) i) (KK Z (arrOf st) j))) st):wpS (model prog w) A E s (ltAt' i j) Q st:=by
 have:=b.size;obtain⟨p,c⟩:=o0 (a:=arrOf st) (i:=i) (by lia);obtain⟨q,d⟩:=o0 (a:=arrOf st) (i:=j) (by lia);rw[ltAt'_eq];refine wpS_bind (wpS_get ?_);refine wpS_bind (G5 c (wpS_bind (G5 d (Iv C b.kind (b.has e _ _ c) (b.has e _ _ d) ?_))));rw[Vq c,Vq d]at h;exact h
theorem TM{st:IA}{lo a b:Nat}{f:Nat->(A5 (A5 Nat)×Nat)->StateT IA Sem (ForInStep (A5 (A5 Nat)×Nat))}{Q:(A5 (A5 Nat)×Nat)->IA->Prop}
  (z:∀x n,1<=n->n<b->wpS (model prog w) A E s (f x (none,n)) (λr k=>k=st/\r=if Z.blt (KK Z (arrOf st) (lo+n)) (KK Z (arrOf st) (lo+n-1))=true then .done (none,n)else .yield (none,n+1)) st)
  (C:1<=a) (o:a<=b) (B:SI Z (arrOf st) lo a)
  (h:∀n,a<=n->n<=b->SI Z (arrOf st) lo n->(n=b\/Z.klt (KK Z (arrOf st) (lo+n)) (KK Z (arrOf st) (lo+n-1)))->Q (none,n) st):wpS (model prog w) A E s (forIn [a:b] (none,a) f) Q st:=by
 refine wpS_forRange (I:=λx c k=>k=st/\c =(none,x)/\SI Z (arrOf st) lo x) ?_ ?_ ⟨rfl,rfl,B⟩
 .rintro x c k p q ⟨rfl,rfl,g⟩;refine wpS_mono (z x x (by lia) q) λr l ⟨e,m⟩=>?_;subst e;cases d:Z.blt (KK Z (arrOf l) (lo+x)) (KK Z (arrOf l) (lo+x-1))
  .rw[d,AI BE]at m;subst m;refine⟨rfl,rfl,λi j t D=>?_⟩;by_cases u:j<x
   .exact g i j t u
   .have v:j=x:=by lia
    subst v;by_cases y:i=j
    .subst y;exact KeyOrd.kle_refl _
    .have:=g i (j-1) (by lia) (by lia);rw[show lo +(j-1)=lo+j-1 by lia]at this;exact KeyOrd.kle_trans this d
  .rw[d,AN rfl]at m;subst m;exact h x p (by lia) g (.inr d)
 .rintro c k ⟨rfl,rfl,g⟩;rw[show max a b=b by lia]at g⊢;exact h b o (VD _) g (.inl rfl)
theorem NI.step{xs e:HW HY}{lo x:Nat}(l:1<=x)(f:∀k,KK Z e k=KK Z xs k)(g:NI Z xs lo x)(h:Z.kle (KK Z xs (lo+x)) (KK Z xs (lo+x-1))):NI Z e lo (x+1):=by
 intro i j a m;rw[f,f];by_cases b:j<x
 .exact g i j a b
 .have c:j=x:=by lia
  subst c;by_cases d:i=j
  .subst d;exact KeyOrd.kle_refl _
  .have:=g i (j-1) (by lia) (by lia);rw[show lo +(j-1)=lo+j-1 by lia]at this;exact KeyOrd.kle_trans h this
abbrev DS:=A5 (A5 Nat)×Nat×Nat
theorem zFc{st0 st:IA}{lo n d:Nat}(hsz:lo+d<=a₀.size){f:Nat->DS->StateT IA Sem (ForInStep DS)}{Q:DS->IA->Prop}
  (J:∀x n q b,1<=n->n<d->Lo Z kd a₀ st0 lo d b->wpS (model prog w) A E s (f x (none,n,q)) (λr st2 =>
   if Z.blt (KK Z (arrOf b) (lo+n)) (KK Z (arrOf b) (lo+n-1))=true then(st2=if q>0 then setArr b (mirror (arrOf b) (lo+n-(q+1)) (lo+n) ((lo+n-(lo+n-(q+1))) / 2))else b)/\r = .yield (none,n+1,0)
   else st2=b/\r=if Z.blt (KK Z (arrOf b) (lo+n-1)) (KK Z (arrOf b) (lo+n))=true then .done (none,n,q)else .yield (none,n+1,q+1)) b)
  (h1:1<=n) (B:n<=d) (K:Lo Z kd a₀ st0 lo d st) (L:NI Z (arrOf st) lo n)
  (h:∀m q b,Lo Z kd a₀ st0 lo d b->n<=m->m<=d->NI Z (arrOf b) lo m->q+1<=m->(∀i,m-(q+1)<=i->i<m->KK Z (arrOf b) (lo+i)=KK Z (arrOf b) (lo+m-1))->Q (none,m,q) b) :
  wpS (model prog w) A E s (forIn [n:d] (none,n,0) f) Q st:=by
 refine wpS_forRange (I:=λx c b=>∃q,c =(none,x,q)/\Lo Z kd a₀ st0 lo d b/\NI Z (arrOf b) lo x/\q+1<=x /\
   (∀i,x-(q+1)<=i->i<x->KK Z (arrOf b) (lo+i)=KK Z (arrOf b) (lo+x-1))) ?_ ?_ ⟨0,rfl,K,L,by lia,λi h1 N=>by congr 1;lia⟩
 .rintro x c b C D ⟨q,rfl,j,l,y,p⟩;have M:=j.S.size;refine wpS_mono (J x x q b (by lia) D j) λr st2 z=>?_;cases g:Z.blt (KK Z (arrOf b) (lo+x)) (KK Z (arrOf b) (lo+x-1))
  .rw[g,AI BE]at z;obtain⟨e,t⟩:=z;subst e;cases o:Z.blt (KK Z (arrOf st2) (lo+x-1)) (KK Z (arrOf st2) (lo+x))
   .rw[o,AI BE]at t;subst t;have u:KK Z (arrOf st2) (lo+x)=KK Z (arrOf st2) (lo+x-1):=KeyOrd.kle_antisymm o g;refine⟨q+1,rfl,j,NI.step (by lia) (λ_=>rfl) l o,by lia,λi F G=>?_⟩;rw[show lo +(x+1)-1=lo+x by lia];by_cases H:i=x
    .subst H;rfl
    .rw[u];exact p i (by lia) (by lia)
   .rw[o,AN rfl]at t;subst t;exact h x q st2 j C (by lia) l y p
  .rw[g,AN rfl]at z;obtain⟨e,t⟩:=z;subst t;have o:Z.kle (KK Z (arrOf b) (lo+x)) (KK Z (arrOf b) (lo+x-1)):=KeyOrd.kle_of_klt g;by_cases v:q>0
   .rw[AN v]at e;subst e;refine⟨0,rfl,j.mirror (by lia) (by lia) hsz,NI.step (by lia) (KK_mirror_equal (by lia) λk F G=>?_) l o,by lia,λi F G=>by congr 1;lia⟩;have:=p (k-lo) (by lia) (by lia);rw[show lo +(k-lo)=k by lia]at this;exact this
   .rw[AI v]at e;subst e;exact⟨0,rfl,j,NI.step (by lia) (λ_=>rfl) l o,by lia,λi F G=>by congr 1;lia⟩
 .rintro c b ⟨q,rfl,j,l,y,p⟩;rw[show max n d=d by lia]at l y p⊢;exact h d q b j B (VD _) l y p
theorem NI.turn{xs:HW HY}{lo n:Nat}(a:lo+n<=xs.size)(h:NI Z xs lo n):SI Z (mirror xs lo (lo+n) ((lo+n-lo) / 2)) lo n:=by
 intro i j b c;rw[KK_mirror a,KK_mirror a,AN (by lia),AN (by lia)];have:=h (n-1-j) (n-1-i) (by lia) (by lia);rw[show lo +(n-1-i)=lo +(lo+n)-1-(lo+i) by lia,show lo +(n-1-j)=lo +(lo+n)-1-(lo+j) by lia]at this;exact this
theorem Iw(C:QU prog w A s Z kd)(D:KeysOf Z a₀){st:IA}{lo c:Nat}{Q:A5 Nat->IA->Prop}(W:St Z kd a₀ st)(hsz:lo+c<=a₀.size)(h1:1<=c)
  (h:∀m b,Lo Z kd a₀ st lo c b->1<=m->m<=c->SI Z (arrOf b) lo m->Q (some m) b):wpS (model prog w) A E s (countRun' lo c) Q st:=by
 have X:Lo Z kd a₀ st lo c st:=⟨W,rfl,λ_ _=>rfl⟩;rw[countRun'_eq];dsimp only;refine wpS_bind (TM (Z:=Z) (lo:=lo) (λx n G H=>?_) (VD 1) h1 (λi j p P=>by have:i=j:=(by lia);subst this;exact KeyOrd.kle_refl _) λn R T F Y=>?_)
 .dsimp only;refine wpS_bind (T3 C D W (by lia) (by lia) ?_);dsimp only;cases Z.blt (KK Z (arrOf st) (lo+n)) (KK Z (arrOf st) (lo+n-1))
  .exact wpS_pure ⟨rfl,rfl⟩
  .exact wpS_pure ⟨rfl,rfl⟩
 dsimp only;by_cases I:n=c
 .rw[AN (by simpa using I)];exact wpS_pure (h n st X R T F)
 rw[AI (by simpa using I)];have U:Z.klt (KK Z (arrOf st) (lo+n)) (KK Z (arrOf st) (lo+n-1)):=Y.resolve_left I;have hz:=W.size;by_cases V:n>1
 .rw[AN V];refine wpS_bind (T3 C D W (by lia) (by lia) ?_);dsimp only;cases J:Z.blt (KK Z (arrOf st) lo) (KK Z (arrOf st) (lo+n-1))with
  | true =>
   simp only[GM];exact wpS_pure (h n st X R T F)
  | false =>
   simp only[BD,CO];have r:∀k,lo<=k->k<lo+n->KK Z (arrOf st) k=KK Z (arrOf st) (lo+n-1):=by
    intro k hk1 hk2;have a1:=F 0 (k-lo) (by lia) (by lia);have a2:=F (k-lo) (n-1) (by lia) (by lia);rw[Nat.add_zero,show lo +(k-lo)=k by lia]at a1;rw[show lo +(k-lo)=k by lia,show lo +(n-1)=lo+n-1 by lia]at a2;exact KeyOrd.kle_antisymm a2 (KeyOrd.kle_trans J a1)
   have K:=KK_mirror_equal (κ:=Z) (xs:=arrOf st) (i:=lo) (j:=lo+n) (by lia) r;refine wpS_bind (wpS_reverse ?_);have L:=X.mirror (i:=lo) (j:=lo+n) (by lia) (by lia) hsz;have hN:NI Z (mirror (arrOf st) lo (lo+n) ((lo+n-lo) / 2)) lo (n+1):=by
    refine NI.step (by lia) K (λi j p P=>?_) (KeyOrd.kle_of_klt U);rw[r (lo+i) (by lia) (by lia),r (lo+j) (by lia) (by lia)];exact KeyOrd.kle_refl _
   refine wpS_bind (wpS_lift (DG ⟨rfl,?_⟩));refine wpS_bind (zFc (Z:=Z) (kd:=kd) (a₀:=a₀) (st0:=st) (lo:=lo) hsz (λx f q b G H t=>?_) (by lia) (by lia) L hN λm q b l hm1 u v y he=>?_)
   .dsimp only;refine wpS_bind (T3 C D t.S (by lia) (by lia) ?_);dsimp only;cases Z.blt (KK Z (arrOf b) (lo+f)) (KK Z (arrOf b) (lo+f - 1))
    .simp only[BD,CO];refine wpS_bind (T3 C D t.S (by lia) (by lia) ?_);dsimp only;cases Z.blt (KK Z (arrOf b) (lo+f - 1)) (KK Z (arrOf b) (lo+f))
     .exact wpS_pure ⟨rfl,rfl⟩
     .exact wpS_pure ⟨rfl,rfl⟩
    .simp only[GM];by_cases y:q>0
     .rw[AN y,AN y];exact wpS_bind (wpS_reverse (wpS_pure ⟨rfl,rfl⟩))
     .rw[AI y,AI y];exact wpS_pure ⟨rfl,rfl⟩
   .dsimp only;have hz3:=l.S.size;by_cases z:q>0
    .rw[AN z];refine wpS_bind (wpS_reverse (wpS_bind (wpS_reverse ?_)));have g:=l.mirror (i:=lo+m-(q+1)) (j:=lo+m) (by lia) (by lia) hsz;have d:=g.mirror (i:=lo) (j:=lo+m) (by lia) (by lia) hsz;have hz4:=g.S.size;have M:NI Z (mirror (arrOf b) (lo+m-(q+1)) (lo+m) ((lo+m-(lo+m-(q+1))) / 2)) lo m:=by
      have K:=KK_mirror_equal (κ:=Z) (xs:=arrOf b) (i:=lo+m-(q+1)) (j:=lo+m) (by lia) (λk G H=>by
       have:=he (k-lo) (by lia) (by lia);rw[show lo +(k-lo)=k by lia]at this;exact this)
      intro i j p P;rw[K,K];exact v i j p P
     have N:=M.turn (Z:=Z) (lo:=lo) (n:=m) (by rw[mirror_size];lia);refine wpS_bind (TM (Z:=Z) (lo:=lo) (λx f G H=>?_) (by lia) u N λO B e o _=>wpS_pure (h O _ d (by lia) e o));dsimp only;refine wpS_bind (T3 C D d.S (by lia) (by lia) ?_);dsimp only;cases Z.blt (KK Z _ (lo+f)) (KK Z _ (lo+f - 1))
     .exact wpS_pure ⟨rfl,rfl⟩
     .exact wpS_pure ⟨rfl,rfl⟩
    .rw[AI z];refine wpS_bind (wpS_reverse ?_);have d:=l.mirror (i:=lo) (j:=lo+m) (by lia) (by lia) hsz;have N:=v.turn (Z:=Z) (lo:=lo) (n:=m) (by lia);refine wpS_bind (TM (Z:=Z) (lo:=lo) (λx f G H=>?_) (by lia) u N λO B e o _=>wpS_pure (h O _ d (by lia) e o));dsimp only;refine wpS_bind (T3 C D d.S (by lia) (by lia) ?_);dsimp only;cases Z.blt (KK Z _ (lo+f)) (KK Z _ (lo+f - 1))
     .exact wpS_pure ⟨rfl,rfl⟩
     .exact wpS_pure ⟨rfl,rfl⟩
 .rw[AI V];have hn1':n=1:=by lia
  have L:=X;have hN:NI Z (arrOf st) lo (n+1):=by
   refine NI.step (by lia) (λ_=>rfl) (λi j p P=>?_) (KeyOrd.kle_of_klt U);have:i=j:=by lia
   subst this;exact KeyOrd.kle_refl _
  refine wpS_bind (wpS_lift (DG ⟨rfl,?_⟩));refine wpS_bind (zFc (Z:=Z) (kd:=kd) (a₀:=a₀) (st0:=st) (lo:=lo) hsz (λx f q b G H t=>?_) (by lia) (by lia) L hN λm q b l hm1 u v y he=>?_)
  .dsimp only;refine wpS_bind (T3 C D t.S (by lia) (by lia) ?_);dsimp only;cases Z.blt (KK Z (arrOf b) (lo+f)) (KK Z (arrOf b) (lo+f - 1))
   .simp only[BD,CO];refine wpS_bind (T3 C D t.S (by lia) (by lia) ?_);dsimp only;cases Z.blt (KK Z (arrOf b) (lo+f - 1)) (KK Z (arrOf b) (lo+f))
    .exact wpS_pure ⟨rfl,rfl⟩
    .exact wpS_pure ⟨rfl,rfl⟩
   .simp only[GM];by_cases y:q>0
    .rw[AN y,AN y];exact wpS_bind (wpS_reverse (wpS_pure ⟨rfl,rfl⟩))
    .rw[AI y,AI y];exact wpS_pure ⟨rfl,rfl⟩
  .dsimp only;have hz3:=l.S.size;by_cases z:q>0
   .rw[AN z];refine wpS_bind (wpS_reverse (wpS_bind (wpS_reverse ?_)));have g:=l.mirror (i:=lo+m-(q+1)) (j:=lo+m) (by lia) (by lia) hsz;have d:=g.mirror (i:=lo) (j:=lo+m) (by lia) (by lia) hsz;have hz4:=g.S.size;have M:NI Z (mirror (arrOf b) (lo+m-(q+1)) (lo+m) ((lo+m-(lo+m-(q+1))) / 2)) lo m:=by
     have K:=KK_mirror_equal (κ:=Z) (xs:=arrOf b) (i:=lo+m-(q+1)) (j:=lo+m) (by lia) (λk G H=>by
      have:=he (k-lo) (by lia) (by lia);rw[show lo +(k-lo)=k by lia]at this;exact this)
     intro i j p P;rw[K,K];exact v i j p P
    have N:=M.turn (Z:=Z) (lo:=lo) (n:=m) (by rw[mirror_size];lia);refine wpS_bind (TM (Z:=Z) (lo:=lo) (λx f G H=>?_) (by lia) u N λO B e o _=>wpS_pure (h O _ d (by lia) e o));dsimp only;refine wpS_bind (T3 C D d.S (by lia) (by lia) ?_);dsimp only;cases Z.blt (KK Z _ (lo+f)) (KK Z _ (lo+f - 1))
    .exact wpS_pure ⟨rfl,rfl⟩
    .exact wpS_pure ⟨rfl,rfl⟩
   .rw[AI z];refine wpS_bind (wpS_reverse ?_);have d:=l.mirror (i:=lo) (j:=lo+m) (by lia) (by lia) hsz;have N:=v.turn (Z:=Z) (lo:=lo) (n:=m) (by lia);refine wpS_bind (TM (Z:=Z) (lo:=lo) (λx f G H=>?_) (by lia) u N λO B e o _=>wpS_pure (h O _ d (by lia) e o));dsimp only;refine wpS_bind (T3 C D d.S (by lia) (by lia) ?_);dsimp only;cases Z.blt (KK Z _ (lo+f)) (KK Z _ (lo+f - 1))
    .exact wpS_pure ⟨rfl,rfl⟩
    .exact wpS_pure ⟨rfl,rfl⟩
theorem Lo.bubble{st0 st:IA}{lo n b d:Nat}(h:Lo Z kd a₀ st0 lo n st)(h1:lo+d<=b)(h2:b<lo+n)(e:lo+n<=a₀.size):Lo Z kd a₀ st0 lo n (setArr st (bubble (arrOf st) b d)):=by
 refine⟨⟨(Array.perm_iff_toList_perm.mp (bubble_perm _ _ _)).trans h.S.perm,h.S.kind,h.S.failed⟩,h.pend,λt c=>?_⟩;show(PyProof.Rows.bubble (arrOf st) b d)[t]?=_;have:=h.S.size;rw[getElem?_bubble (by lia) d (by lia),AI (by lia),AI (by lia)];exact h.out t c
theorem Dd(C:QU prog w A s Z kd)(H:KeysOf Z a₀){st0 st:IA}{lo g n v:Nat}{Q:Bool->IA->Prop}(J:Lo Z kd a₀ st0 lo g st)(hsz:lo+g<=a₀.size)(U:n<=g)(K:v<=n)(L:SI Z (arrOf st) lo v)
  (h:∀b,Lo Z kd a₀ st0 lo g b->SI Z (arrOf b) lo n->Q true b):wpS (model prog w) A E s (binarySort' lo n v) Q st:=by
 rw[binarySort'_eq];refine wpS_bind (wpS_mono (wpS_forRange (I:=λk c b=>c =(none,())/\Lo Z kd a₀ st0 lo g b/\SI Z (arrOf b) lo (min k n))
  (Q:=λc b=>c =(none,())/\Lo Z kd a₀ st0 lo g b/\SI Z (arrOf b) lo n) ?step ?fin ?init) ?post)
 case post =>
  rintro c b ⟨rfl,m,f⟩;exact wpS_pure (h b m f)
 case init =>
  refine⟨rfl,J,λi j y M=>?_⟩;by_cases B:v=0
  .have:i=j:=by lia
   subst this;exact KeyOrd.kle_refl _
  .exact L i j y (by lia)
 case fin =>
  rintro c b ⟨N,m,f⟩;refine⟨N,m,?_⟩
  rwa [show min (max (max v 1) n) n=n by lia]at f
 case step =>
  rintro k c b O P ⟨rfl,m,f⟩;rw[show min k n=k by lia]at f;dsimp only;refine wpS_bind (wpS_mono (wpS_forRange (I:=λx c d=>d=b/\∃l r,c =(none,l,r)/\l<=r/\r<=k/\r-l<=k-x /\
    (∀i,i<l->Z.kle (KK Z (arrOf b) (lo+i)) (KK Z (arrOf b) (lo+k)))/\(∀i,r<=i->i<k->Z.klt (KK Z (arrOf b) (lo+k)) (KK Z (arrOf b) (lo+i))))
   (Q:=λc d=>d=b/\∃l r,c =(none,l,r)/\l<=k /\
    (∀i,i<l->Z.kle (KK Z (arrOf b) (lo+i)) (KK Z (arrOf b) (lo+k)))/\(∀i,l<=i->i<k->Z.klt (KK Z (arrOf b) (lo+k)) (KK Z (arrOf b) (lo+i)))) ?istep ?ifin ?iinit) ?ipost)
  case iinit=>exact⟨rfl,0,k,rfl,by lia,by lia,by lia,λi V=>by lia,λi B G=>by lia⟩
  case ifin =>
   rintro c d ⟨rfl,l,r,rfl,D,u,F,o,p⟩;have:l=r:=by lia
   subst this;exact⟨rfl,l,l,rfl,u,o,p⟩
  case istep =>
   rintro x c d _ R ⟨rfl,l,r,rfl,D,u,F,o,p⟩;dsimp only;by_cases t:l ≥ r
   .rw[AN t];have:l=r:=by lia
    subst this;exact wpS_pure ⟨rfl,l,l,rfl,u,o,p⟩
   .rw[AI t];refine wpS_bind (T3 C H m.S (by lia) (by lia) ?_);dsimp only;cases q:Z.blt (KK Z (arrOf d) (lo+k)) (KK Z (arrOf d) (lo +(l+r) / 2))
    case true =>
     simp only[GM];refine wpS_pure ⟨rfl,l,(l+r) / 2,rfl,by lia,by lia,zAk (Nat.lt_of_not_le t) F,o,λi B G=>?_⟩;exact KeyOrd.klt_of_klt_of_kle q (f _ _ B G)
    case false =>
     simp only[BD,CO];refine wpS_pure ⟨rfl,(l+r) / 2+1,r,rfl,by lia,by lia,zAc (Nat.lt_of_not_le t) F,λi B=>?_,p⟩;exact KeyOrd.kle_trans (f i ((l+r) / 2) (by lia) (by lia)) (show Z.kle _ _ from q)
  case ipost =>
   rintro c d ⟨rfl,l,r,rfl,T,o,p⟩;have W:=m.S.size;show wpS _ _ _ _ (do moveDown' (lo+k) (lo+l);pure (ForInStep.yield (none,()))) _ _;rw[moveDown'_eq];refine wpS_bind (wpS_modify (wpS_pure ⟨rfl,m.bubble (by lia) (by lia) hsz,?_⟩));rw[show min (k+1) n=k+1 by lia];intro i j y M;show Z.kle (KK Z (bubble (arrOf d) (lo+k) (lo+k-(lo+l))) (lo+i)) (KK Z (bubble (arrOf d) (lo+k) (lo+k-(lo+l))) (lo+j));rw[KK_bubble (by lia) (by lia),KK_bubble (by lia) (by lia),show lo+k-(lo+k-(lo+l))=lo+l by lia];have e:∀z,1<=z->lo+z-1=lo +(z-1):=λz _=>by lia
   repeat' split
   all_goals first
    | (exfalso;lia)
    | exact KeyOrd.kle_refl _
    | exact o _ (by lia)
    | exact KeyOrd.kle_of_klt (p _ (by lia) (by lia))
    | exact f _ _ (by lia) (by lia)
    | (rw[e j (by lia)];exact KeyOrd.kle_of_klt (p _ (by lia) (by lia)))
    | (rw[e i (by lia)];exact o _ (by lia))
    | (rw[e j (by lia)];exact f _ _ (by lia) (by lia))
    | (rw[e i (by lia),e j (by lia)];exact f _ _ (by lia) (by lia))
    | (rw[e i (by lia)];exact f _ _ (by lia) (by lia))
end
abbrev Run:=Nat×Nat×Nat
def MS:A0 Run->Nat->Nat->Prop
 | [],a,b=>a=b
 | x::r,a,b=>x.1=a/\1<=x.2.1/\MS r (a+x.2.1) b
def MS.app:∀{i l2:A0 Run} {a b:Nat},MS (i++l2) a b↔∃c,MS i a c/\MS l2 c b
 | [],l2,a,b=>⟨λh=>⟨a,rfl,h⟩,λ⟨c,d,e⟩=>by have:a=c:=d;subst this;exact e⟩
 | x::r,l2,a,b=>by
  constructor
  .rintro⟨d,e,j⟩;obtain⟨c,f,g⟩:=MS.app.mp j;exact⟨c,⟨d,e,f⟩,g⟩
  .rintro⟨c,⟨d,e,f⟩,g⟩;exact⟨d,e,MS.app.mpr ⟨c,f,g⟩⟩
def MS.le:∀{l:A0 Run} {a b:Nat},MS l a b->a+l.length<=b
 | [],a,b,h=>by have:a=b:=h;subst this;simp
 | x::r,a,b,⟨d,e,c⟩=>by have:=MS.le c;rw[BR];lia
def MS.mem:∀{l:A0 Run} {a b:Nat} {x:Run},MS l a b->x∈l->a<=x.1/\x.1+x.2.1<=b
 | [],_,_,_,_,hx=>absurd hx (by simp)
 | y::r,a,b,x,⟨d,f,c⟩,hx=>by
  have g:=MS.le c;rcases AU.mp hx with e | hx
  .subst e;lia
  .have:=MS.mem c hx;lia
def zHw{l:A0 Run}{i:Nat}{x y:Run}(a:l[i]?=some x)(b:l[i+1]?=some y):l=l.take i++x::y::l.drop (i+2):=by
 obtain⟨c,rfl⟩:=AK.mp a;obtain⟨d,rfl⟩:=AK.mp b
 conv=>lhs;rw[<-BX i l]
 rw[DV c,DV d]
def zFq{l:A0 Run}{i:Nat}{x y:Run}(z:Run)(a:l[i]?=some x)(b:l[i+1]?=some y):(l.set i z).eraseIdx (i+1)=l.take i++z::l.drop (i+2):=by
 obtain⟨d,_⟩:=AK.mp a;obtain⟨f,_⟩:=AK.mp b;have e:=zHw a b;have c:(l.take i).length=i:=by rw[AZ];lia
 generalize l.take i=p at *;generalize l.drop (i+2)=q at *;subst e;rw[List.set_append_right _ _ (by lia),c,Nat.sub_self,List.eraseIdx_append_of_length_le (by lia),c,show i+1-i=1 by lia];rfl
section
variable{prog:HX}{w:HZ}{A:IE}{E:A2->A4->Prop}{s:A4}{Z:KeyKind}{kd:JS}{a₀:HW HY}
structure RI(Z:KeyKind)(kd:JS)(a₀:HW HY)(lo:Nat)(st:IA):Prop where
 S:St Z kd a₀ st
 cov:MS (pendingOf st).toList 0 lo
 sor:∀x∈(pendingOf st).toList,K2 Z (JL (arrOf st).toList x.1 x.2.1)
theorem Ka(C:QU prog w A s Z kd)(I:KeysOf Z a₀){st:IA}{lo i:Nat}{Q:Bool->IA->Prop}(R:RI Z kd a₀ lo st)(J:lo<=a₀.size)(hi:i+1 <(pendingOf st).size)
  (h:∀b,RI Z kd a₀ lo b->(pendingOf b).size+1 =(pendingOf st).size->LE Z (arrOf st).toList (arrOf b).toList 0 lo->Q true b):wpS (model prog w) A E s (mergeAt' i) Q st:=by
 obtain⟨⟨g,d,q⟩,u⟩:∃x,(pendingOf st)[i]?=some x:=⟨_,getElem?_pos _ i (by lia)⟩;obtain⟨⟨K,f,r⟩,n⟩:∃x,(pendingOf st)[i+1]?=some x:=⟨_,getElem?_pos _ (i+1) hi⟩;have j:(pendingOf st).toList[i]?=some (g,d,q):=by rw[BJ];exact u
 have k:(pendingOf st).toList[i+1]?=some (K,f,r):=by rw[BJ];exact n
 have e:=zHw j k;have c:=R.cov;rw[e]at c;obtain⟨v,B,L⟩:=MS.app.mp c;obtain⟨D,F,M,G,o⟩:=L;dsimp only at D F M G o;have N:=MS.le o;refine Jf C I R.S u n (by lia) (by lia) F G (R.sor _ (BB j)) (R.sor _ (BB k)) λb O p P T=>?_;have t:(pendingOf b).toList =(pendingOf st).toList.take i ++(g,d+f,q) ::(pendingOf st).toList.drop (i+2):=by
  rw[T,<-zFq (g,d+f,q) j k];simp
 refine h b ⟨O,?_,λx l=>?_⟩ ?_ ?_
 .rw[t];exact MS.app.mpr ⟨v,B,D,(by show 1<=d+f;lia),(by show MS _ (v +(d+f)) lo;rw[<-Nat.add_assoc];exact o)⟩
 .rw[t]at l;have m:∀y∈(pendingOf st).toList,(y.1+y.2.1<=g\/g +(d+f)<=y.1)->K2 Z (JL (arrOf b).toList y.1 y.2.1):=λy n ho=>by
   have:=R.sor y n;rcases ho with ho | ho
   .rw[p.seg_front ho];exact this
   .rw[p.seg_back ho];exact this
  rcases AO.mp l with hm | hm
  .have:=MS.mem B hm;exact m x (DF hm) (.inl (by lia))
  .rcases AU.mp hm with hm | hm
   .subst hm;exact P
   .have:=MS.mem o hm;exact m x (EQ hm) (.inr (by lia))
 .have:=congrArg List.length t;rw[AS,AV,BR,AZ,DK,AS]at this;lia
 .have H:∀z:A0 HY,z.drop (0+lo) =(z.drop (g +(d+f))).drop (lo-(g +(d+f))):=λz=>by
   rw[FB];congr 1;lia
  exact⟨p.perm,rfl,by rw[H,H,p.back]⟩
theorem Bu{l:HW Run}{a:Nat}:(l.modify (l.size-1) λx=>(x.1,x.2.1,a)).toList.map (λx:Run=>(x.1,x.2.1))=l.toList.map λx:Run=>(x.1,x.2.1):=by
 refine FI λt=>?_;rw[AH,AH,BJ,BJ,Array.getElem?_modify];split
 .cases l[t]?<;>rfl
 .rfl
theorem MS.congr:∀{l c:A0 Run} {a b:Nat},c.map (λx:Run=>(x.1,x.2.1))=l.map (λx:Run=>(x.1,x.2.1))->MS l a b->MS c a b
 | [],[],_,_,_,h=>h
 | [],_::_,_,_,e,_=>by simp at e
 | _::_,[],_,_,e,_=>by simp at e
 | x::r,y::n,a,b,e,⟨f,g,i⟩=>by
  rw[BM,BM]at e;obtain⟨j,k⟩:=List.cons.inj e;obtain⟨m,d⟩:=Prod.mk.inj j;exact⟨m.trans f,by rw[d];exact g,by rw[d];exact MS.congr k i⟩
theorem RI.congr{lo:Nat}{st:IA}(R:RI Z kd a₀ lo st){p:HW Run}(e:p.toList.map (λx:Run=>(x.1,x.2.1)) =(pendingOf st).toList.map λx:Run=>(x.1,x.2.1)):RI Z kd a₀ lo (setPending st p):=by
 refine⟨⟨R.S.perm,R.S.kind,R.S.failed⟩,MS.congr e R.cov,λx b=>?_⟩;have:(x.1,x.2.1)∈(pendingOf st).toList.map λx:Run=>(x.1,x.2.1):=by
  rw[<-e];exact BK.mpr ⟨x,b,rfl⟩
 obtain⟨y,c,d⟩:=BK.mp this;obtain⟨f,g⟩:=Prod.mk.inj d;have:=R.sor y c;rw[f,g]at this;exact this
theorem Gf(C:QU prog w A s Z kd)(v:KeysOf Z a₀){st:IA}{Q:Unit->IA->Prop}(hS:St Z kd a₀ st)(hp:pendingOf st = #[])
  (h:∀d,St Z kd a₀ d->K2 Z (arrOf d).toList->Q () d):wpS (model prog w) A E s sortRuns' Q st:=by
 rw[sortRuns'_eq];refine wpS_bind (wpS_get ?_);dsimp only;have hz:=hS.size;rw[hz];generalize minRun' a₀.size a₀.size 0=B;refine wpS_bind (wpS_mono (wpS_forRange (I:=λx c d=>∃lo,c =(none,lo)/\RI Z kd a₀ lo d/\lo<=a₀.size/\min x a₀.size<=lo)
  (Q:=λc d=>∃lo,c =(none,lo)/\RI Z kd a₀ lo d/\lo=a₀.size) ?st ?en ⟨0,rfl,⟨hS,by rw[hp];rfl,λx K=>by rw[hp]at K;exact absurd K (by simp)⟩,CB _,by lia⟩) ?po)
 case en =>
  rintro c d ⟨lo,rfl,R,P,h2⟩;exact⟨lo,rfl,R,by lia⟩
 case po =>
  rintro c d ⟨lo,rfl,R,rfl⟩;dsimp only;refine wpS_bind (wpS_mono (wpS_forRange (I:=λx c d=>c =(none,())/\RI Z kd a₀ a₀.size d/\(pendingOf d).size+x<=a₀.size+1)
   (Q:=λc d=>c =(none,())/\RI Z kd a₀ a₀.size d/\(pendingOf d).size<=1) ?st3 ?en3 ⟨rfl,R,?in3⟩) ?po3)
  case in3 =>
   have:=MS.le R.cov;rw[AS]at this;lia
  case en3 =>
   rintro c e ⟨rfl,R2,g⟩;exact⟨rfl,R2,by lia⟩
  case po3 =>
   rintro c e ⟨rfl,R2,g⟩;refine wpS_pure (h e R2.S ?_);have c:=R2.cov;have L:=R2.sor;have hz2:=R2.S.size;have M:(pendingOf e).toList.length<=1:=by rw[AS];exact g
   generalize (pendingOf e).toList=l at c L M
   match l,c,L,M with
   | [],c,_,_ =>
    have c':0=a₀.size:=c;have:(arrOf e).toList = []:=List.eq_nil_of_length_eq_zero (by rw[AS];lia);rw[this];exact List.Pairwise.nil
   | [x],⟨c1,c2,c3⟩,L,_ =>
    have c3':0+x.2.1=a₀.size:=c3;have:=L x (AE.mpr rfl);unfold JL at this;rw[c1,EC,DU (by rw[AS];lia)]at this;exact this
   | _::_::_,_,_,M=>exact absurd M (by simp)
  case st3 =>
   rintro x c e _ K ⟨rfl,R2,g⟩
   try dsimp only
   refine wpS_bind (wpS_get ?_);by_cases r:(pendingOf e).size<=1
   .rw[AN r];exact wpS_pure ⟨rfl,R2,r⟩
   rw[AI r];refine wpS_bind (Ka C v R2 (VD _) ?_ λst3 R3 e3 _=>?_)
   .have T:∀{c:Prop} [Decidable c] {n:Nat},(if c then n-1 else n)+1<=n+1:=by intro c _ n;split<;>lia
    exact Nat.lt_of_le_of_lt T (by lia)
   .simp only[EN,BD,CO];exact wpS_pure ⟨rfl,R3,by lia⟩
 case st =>
  rintro x c d _ K ⟨lo,rfl,R,P,h2⟩;dsimp only;by_cases D:lo ≥ a₀.size
  .rw[AN D];exact wpS_pure ⟨lo,rfl,R,by lia⟩
  rw[AI D];refine wpS_bind (Iw C v R.S (by lia) (by lia) λm e L2 hm1 hm2 t=>?_);dsimp only;by_cases F:m<B
  .rw[AN F];refine wpS_bind (wpS_lift (DG ⟨rfl,?_⟩));refine wpS_bind (Dd C v L2 (by lia) (show min (a₀.size-lo) B<=a₀.size-lo by lia) (by lia) t λq O U=>?_);simp only[EN,BD,CO];have hN:1<=min (a₀.size-lo) B/\min (a₀.size-lo) B<=a₀.size-lo:=by lia
   generalize min (a₀.size-lo) B=N at hN U⊢;have G:RI Z kd a₀ lo q:=by
    refine⟨O.S,by rw[O.pend];exact R.cov,λy k=>?_⟩;rw[O.pend]at k;have hc:=MS.mem R.cov k;rw[(O.part R.S).seg_front (by lia)];exact R.sor y k
   refine wpS_bind (wpS_get ?_);have i:∀(b:IA),RI Z kd a₀ lo b->K2 Z (JL (arrOf b).toList lo N)->RI Z kd a₀ (lo+N) (setPending b ((pendingOf b).push (lo,N,0))):=λb f V=>by
    refine⟨⟨f.S.perm,f.S.kind,f.S.failed⟩,?_,λy k=>?_⟩
    .show MS ((pendingOf b).push (lo,N,0)).toList 0 (lo+N);rw[DE];exact MS.app.mpr ⟨lo,f.cov,rfl,(by show 1<=N;lia),rfl⟩
    .have hy':y∈((pendingOf b).push (lo,N,0)).toList:=k;rw[DE]at hy';rcases AO.mp hy' with hy' | hy'
     .exact f.sor y hy'
     .rw[AE.mp hy'];exact V
   cases W:(pendingOf q).back? with
   | none =>
    dsimp only;refine wpS_bind (wpS_modify (wpS_pure ⟨_,rfl,i _ G U.sor,by lia,by lia⟩))
   | some X =>
    obtain⟨H,u,pb⟩:=X;dsimp only;generalize power' a₀.size (2*H+u) (2*H+u+u+N) a₀.size=Y;refine wpS_bind (wpS_mono (wpS_forRange (I:=λx c b=>c =(none,())/\RI Z kd a₀ lo b/\LE Z (arrOf q).toList (arrOf b).toList 0 lo)
     (Q:=λc b=>c =(none,())/\RI Z kd a₀ lo b/\LE Z (arrOf q).toList (arrOf b).toList 0 lo) ?stc1 (λ_ _ z=>z) ⟨rfl,G,LE.refl _ _ _⟩) ?poc1)
    case stc1 =>
     rintro x' c b _ _ ⟨rfl,f,j⟩
     try dsimp only
     refine wpS_bind (wpS_get ?_);by_cases o:(pendingOf b).size>1
     .rw[AN o];obtain⟨⟨u1,u2,ol⟩,hu⟩:∃y,(pendingOf b)[(pendingOf b).size-2]?=some y:=⟨_,getElem?_pos _ _ (by lia)⟩;rw[hu];dsimp only;by_cases p:ol<=Y
      .rw[AN p];exact wpS_pure ⟨rfl,f,j⟩
      rw[AI p];refine wpS_bind (Ka C v f P (by lia) λst7 R7 _ J=>?_);simp only[EN,BD,CO];exact wpS_pure ⟨rfl,R7,⟨J.perm.trans j.perm,rfl,J.back.trans j.back⟩⟩
     .rw[AI o];exact wpS_pure ⟨rfl,f,j⟩
    case poc1 =>
     rintro c b ⟨rfl,f,j⟩;dsimp only;refine wpS_bind (wpS_modify (wpS_bind (wpS_modify (wpS_pure ⟨_,rfl,i _ (f.congr Bu) ?_,by lia,by lia⟩))));show K2 Z (JL (arrOf b).toList lo N);rw[j.seg_back (by lia)];exact U.sor
  .rw[AI F];have G:RI Z kd a₀ lo e:=by
    refine⟨L2.S,by rw[L2.pend];exact R.cov,λy k=>?_⟩;rw[L2.pend]at k;have hc:=MS.mem R.cov k;rw[(L2.part R.S).seg_front (by lia)];exact R.sor y k
   refine wpS_bind (wpS_get ?_);have i:∀(b:IA),RI Z kd a₀ lo b->K2 Z (JL (arrOf b).toList lo m)->RI Z kd a₀ (lo+m) (setPending b ((pendingOf b).push (lo,m,0))):=λb f V=>by
    refine⟨⟨f.S.perm,f.S.kind,f.S.failed⟩,?_,λy k=>?_⟩
    .show MS ((pendingOf b).push (lo,m,0)).toList 0 (lo+m);rw[DE];exact MS.app.mpr ⟨lo,f.cov,rfl,(by show 1<=m;lia),rfl⟩
    .have hy':y∈((pendingOf b).push (lo,m,0)).toList:=k;rw[DE]at hy';rcases AO.mp hy' with hy' | hy'
     .exact f.sor y hy'
     .rw[AE.mp hy'];exact V
   cases W:(pendingOf e).back? with
   | none =>
    dsimp only;refine wpS_bind (wpS_modify (wpS_pure ⟨_,rfl,i _ G t.sor,by lia,by lia⟩))
   | some X =>
    obtain⟨H,u,pb⟩:=X;dsimp only;generalize power' a₀.size (2*H+u) (2*H+u+u+m) a₀.size=Y;refine wpS_bind (wpS_mono (wpS_forRange (I:=λx c b=>c =(none,())/\RI Z kd a₀ lo b/\LE Z (arrOf e).toList (arrOf b).toList 0 lo)
     (Q:=λc b=>c =(none,())/\RI Z kd a₀ lo b/\LE Z (arrOf e).toList (arrOf b).toList 0 lo) ?stc2 (λ_ _ z=>z) ⟨rfl,G,LE.refl _ _ _⟩) ?poc2)
    case stc2 =>
     rintro x' c b _ _ ⟨rfl,f,j⟩
     try dsimp only
     refine wpS_bind (wpS_get ?_);by_cases o:(pendingOf b).size>1
     .rw[AN o];obtain⟨⟨u1,u2,ol⟩,hu⟩:∃y,(pendingOf b)[(pendingOf b).size-2]?=some y:=⟨_,getElem?_pos _ _ (by lia)⟩;rw[hu];dsimp only;by_cases p:ol<=Y
      .rw[AN p];exact wpS_pure ⟨rfl,f,j⟩
      rw[AI p];refine wpS_bind (Ka C v f P (by lia) λst7 R7 _ J=>?_);simp only[EN,BD,CO];exact wpS_pure ⟨rfl,R7,⟨J.perm.trans j.perm,rfl,J.back.trans j.back⟩⟩
     .rw[AI o];exact wpS_pure ⟨rfl,f,j⟩
    case poc2 =>
     rintro c b ⟨rfl,f,j⟩;dsimp only;refine wpS_bind (wpS_modify (wpS_bind (wpS_modify (wpS_pure ⟨_,rfl,i _ (f.congr Bu) ?_,by lia,by lia⟩))));show K2 Z (JL (arrOf b).toList lo m);rw[j.seg_back (by lia)];exact t.sor
end
def kd1(Z:KeyKind)(v:A2):Z.α:=(Z.keyOf v).getD Z.dflt
def TX(a:A3)(s c:A4):Prop:=∀b o,b≠a->s.heap.get? b=some o->c.heap.get? b=some o
structure R_(prog:HX)(w:HZ)(a:A3)(s:A4)(Z:KeyKind)(kd:JS)(vs:A0 A2):Prop where
 cmp:∀(A:IE) (s':A4),TX a s s'->QU prog w A s' Z kd
 key:∀v∈vs,∃k,Z.keyOf v=some k
 kind:2<=vs.length->∀(A:IE) (E:A2->A4->Prop) (s':A4) (Q:JS->A4->Prop),TX a s s'->Q kd s'->wpAny (model prog w) A (keyKind' vs.toArray) Q E s'
def Out(Z:KeyKind)(vs:A0 A2)(out:HW A2):Prop:=out.toList.Perm vs/\out.toList.Pairwise λu v=>Z.kle (kd1 Z u) (kd1 Z v)
theorem Xn{vs:A0 A2}{xs:HW HY}(a:xs.toList.Perm (pairsOf vs).toList)(b:K2 Z xs.toList):Out Z vs (xs.map (·.2)):=by
 rw[pairsOf_toList]at a;have c:∀p∈xs.toList,p.1=p.2:=λp h=>(mem_zip_self (a.mem_iff.mp h)).1;have e:(xs.map (·.2)).toList=xs.toList.map (·.1):=by
  rw[Array.toList_map];exact List.map_congr_left λp h=>(c p h).symm
 refine⟨?_,?_⟩
 .rw[e];have:=a.map Prod.fst
  rwa [List.map_fst_zip (VD _)]at this
 .rw[e,CT];exact b
theorem Fw{a:A3}{vs:A0 A2}{n:Nat}{P:Fin->A4->Prop}(k:s.heap.get? a=some (seqObj "list" vs.toArray n))(hz:vs.length<=sizeLine)(K:R_ prog w a s Z kd vs)
  (h:∀out:HW A2,Out Z vs out->P (.done (.ret .none)) { s with heap:=sortedHeap s.heap a vs out }) :
  wpAny (model prog w) A (Builtin.«list.sort» ⟨[.ref a],[]⟩) P E s:=by
 rw[list_sort_plain];have m:a<s.heap.objs.size:=AG k;have i:vs.toArray.size=vs.length:=by simp
 refine AA (listItems_at k rfl ?_);refine AA (listUpdate_at k rfl ?_ (by rw[i];exact hz) (by simp));obtain⟨l,j⟩:∃l,(s.heap.update a (Obj.mapSeq λ_=>#[])).get? a=some (seqObj "list" #[] l):=⟨_,get?_update_seq k (λ_=>#[])⟩;refine AA (seqEpoch_at j rfl ?_);refine AA (GQ ?_ (by simpa using hz));refine AA (wpAny_newList ?_);refine BP ?_;have d:(((s.heap.update a (Obj.mapSeq λ_=>#[])).push (seqObj "tuple" vs.toArray 0)).push (seqObj "list" #[] 0)).get? a=some (seqObj "list" #[] l):=by
  rw[Heap.get?_push_ne _ _ _ (by rw[size_push',GS];exact BA (EU m)),Heap.get?_push_ne _ _ _ (by rw[GS];exact BA m)];exact j
 show wpAny (model prog w) A _ P E { s with heap:=((s.heap.update a (Obj.mapSeq λ_=>#[])).push (seqObj "tuple" vs.toArray 0)).push (seqObj "list" #[] 0) };dsimp only;have q:TX a s { s with heap:=((s.heap.update a (Obj.mapSeq λ_=>#[])).push (seqObj "tuple" vs.toArray 0)).push (seqObj "list" #[] 0) }:=λb o r e =>
  AC _ (AC _ ((BH s.heap _ (Ne.symm r)).trans e))
 by_cases f:vs.toArray.size<2
 .rw[AN f,AN f];refine AA (AD ?_);rw[StateT.run_pure];refine AA (AD ?_);dsimp only;refine AA (seqEpoch_at d rfl ?_);refine AA (listUpdate_at d rfl ?_ (by simp) (by rw[HH];show(pairsOf vs).size<=_;rw[pairsOf_size];lia));simp only[bne_self_eq_false,BD,CO];refine AD (h _ (Xn (Z:=Z) (xs:=pairsOf vs) (List.Perm.refl _) ?_));rw[pairsOf_toList];rw[i]at f
  match vs,f with
  | [],_=>exact List.Pairwise.nil
  | [v],_=>exact List.pairwise_singleton _ _
  | _::_::_,f=>simp at f;lia
 .rw[AI f,AI f];refine AA (K.kind (by lia) A E _ _ q ?_);refine AA (B_ (Gf (K.cmp A _ q) (a₀:=pairsOf vs) (st:=SortSt.mk' kd (vs.toArray.zip vs.toArray) #[] 7 none)
   (Q:=λ_ c=>St Z kd (pairsOf vs) c/\K2 Z (arrOf c).toList)
   (λp g=>?_) ⟨List.Perm.refl _,rfl,rfl⟩ rfl λc t u=>⟨t,u⟩) ?_ λ_ _ e=>e)
  .rw[pairsOf_toList]at g;exact K.key _ (mem_zip_self g).2
  rintro⟨⟨⟩,c⟩ y ⟨rfl,g,x⟩;dsimp only;refine AA (seqEpoch_at d rfl ?_);refine AA (listUpdate_at d rfl ?_ (by simp) (by rw[HH];show(arrOf c).size<=_;rw[g.size,pairsOf_size];lia));rw[show failedOf c=none from g.failed];simp only[bne_self_eq_false,BD,CO];exact AD (h _ (Xn g.perm x))
theorem KS{x:A2}{Q:A2->A4->Prop}
  (g:wpAny (model prog w) A.in1 (collect x) (λvs s1=>s1.os=s.os/\vs.length<=sizeLine/\(∃(Z:KeyKind) (kd:JS),(∀d:A4,TX s1.heap.objs.size s1 d->R_ prog w s1.heap.objs.size d Z kd vs) /\
   ∀(out:HW A2) (h':IC) (e:Nat),Out Z vs out->(∀b o,s1.heap.get? b=some o->h'.get? b=some o)->h'.get? s1.heap.objs.size=some (seqObj "list" out e)->Q (.ref s1.heap.objs.size) { s1 with heap:=h' })) E s) :
  wpAny (model prog w) A (call (.builtin "sorted") [x]) Q E s:=by
 refine Calls.call_function_entry kind_sorted plain_sorted entry_sorted (args_sorted1 _) ?_;unfold Builtin.«sorted»;refine AA (m:=checkCount "sorted" 1 1 _) (AD ?_);refine AA (B_ g (λvs s1 ⟨i,j,Z,kd,K,q⟩=>?_) λ_ _ z=>z);refine AA (wpAny_newList ?_);have a:(s1.heap.push (seqObj "list" vs.toArray 0)).get? s1.heap.objs.size=some (seqObj "list" vs.toArray 0):=AW _ rfl;show wpAny _ _ _ _ _ { s1 with heap:=s1.heap.push (seqObj "list" vs.toArray 0) };have k:TX s1.heap.objs.size s1 { s1 with heap:=s1.heap.push (seqObj "list" vs.toArray 0) }:=λb o _ e=>AC _ e;refine AA (BP (CF slot_list_sort ⟨_,a,rfl⟩ entry_list_sort (Fw (s:={ s1 with heap:=s1.heap.push (seqObj "list" vs.toArray 0) }) a j (K _ k) λout l=>⟨_,rfl,?_⟩) (args_list_sort _)));obtain⟨e,n⟩:=sortedHeap_at (h:=s1.heap.push (seqObj "list" vs.toArray 0)) (out:=out) a;refine AD ⟨_,rfl,q out _ e l (λb o f=>?_) n⟩;have c:=AG f;rw[sortedHeap_old (BA c) (by rw[size_push'];exact EU c)];exact AC _ f
theorem MP{a:A3}{vs:A0 A2}{ss:A0 Str}(b:StrsAre vs ss):R_ prog w a s strKind oneType' vs:=by
 refine⟨λA c _=>⟨λx y k l Q E d e q=>?_⟩,λv f=>?_,λg A E c Q _ q=>?_⟩
 .rw[keyLt'_oneType];exact strKind_oneLt prog w A E c x y k l d e q
 .obtain⟨x,t,rfl⟩:=b.all v f;exact⟨_,rfl⟩
 .match vs,g,b with
  | v1::h::r,_,b =>
   rw[keyKind_strs b];exact AD q
def JJ(a b:A0 Nat×A0 Nat):Bool:=decide (a.1<b.1)||(decide (a.1=b.1)&&decide (a.2<b.2))
theorem I_{a b:A0 Nat×A0 Nat}:JJ a b=true↔a.1<b.1\/(a.1=b.1/\a.2<b.2):=by
 unfold JJ;simp
theorem TN(a b:A0 Nat):a<b\/a=b\/b<a:=by
 by_cases h:a<b
 .exact .inl h
 .by_cases c:b<a
  .exact .inr (.inr c)
  .exact .inr (.inl (HP (List.not_lt.mp c) (List.not_lt.mp h)))
def Pq:A0 A2->A5 (A0 Nat×A0 Nat)
 | [.str x _,.str y _]=>some (x.cps.toList,y.cps.toList)
 | _=>none
def Sx(c:A2):Data->A5 (A0 Nat×A0 Nat)
 | .seq a _=>if c = .type "tuple" then Pq a.toList else none
 | _=>none
def NS(h:IC):A2->A5 (A0 Nat×A0 Nat)
 | .ref p=>(h.get? p).bind λo=>Sx o.cls o.data
 | _=>none
@[reducible] def pairKind(h:IC):KeyKind where
 α:=A0 Nat×A0 Nat
 blt:=JJ
 irrefl a:=by
  rw[ET];intro z;rcases I_.mp z with z | ⟨_,z⟩
  .exact List.lt_irrefl _ z
  .exact List.lt_irrefl _ z
 trans a b c e d:=by
  rw[I_]at *;rcases e with e | ⟨e,f⟩
  .rcases d with d | ⟨d,_⟩
   .exact .inl (List.lt_trans e d)
   .exact .inl (d▸e)
  .rcases d with d | ⟨d,g⟩
   .exact .inl (e▸d)
   .exact .inr ⟨e.trans d,List.lt_trans f g⟩
 negTrans a b c h:=by
  rw[I_]at h;simp only[I_];rcases h with h | ⟨h,i⟩
  .rcases TN a.1 b.1 with q | q | q
   .exact .inl (.inl q)
   .exact .inr (.inl (q▸h))
   .exact .inr (.inl (List.lt_trans q h))
  .rcases TN a.1 b.1 with q | q | q
   .exact .inl (.inl q)
   .rcases TN a.2 b.2 with r | r | r
    .exact .inl (.inr ⟨q,r⟩)
    .exact .inr (.inr ⟨q▸h,r▸i⟩)
    .exact .inr (.inr ⟨q▸h,List.lt_trans r i⟩)
   .exact .inr (.inl (h▸q))
 total a b e d:=by
  rw[ET]at e d;rcases TN a.1 b.1 with q | q | q
  .exact absurd (I_.mpr (.inl q)) e
  .rcases TN a.2 b.2 with r | r | r
   .exact absurd (I_.mpr (.inr ⟨q,r⟩)) e
   .exact Prod.ext q r
   .exact absurd (I_.mpr (.inr ⟨q.symm,r⟩)) d
  .exact absurd (I_.mpr (.inl q)) d
 keyOf:=NS h
 dflt:=([],[])
def MK(h:IC)(v:A2)(x y:Str):Prop:=∃p o n t u,v = .ref p/\h.get? p=some o/\o.cls = .type "tuple"/\o.data = .seq #[.str x t,.str y u] n
theorem MK.key{h:IC}{v:A2}{x y:Str}(z:MK h v x y):NS h v=some (x.cps.toList,y.cps.toList):=by
 obtain⟨p,o,n,t,u,rfl,e,c,d⟩:=z;show(h.get? p).bind (λo=>Sx o.cls o.data)=_;rw[e];show Sx o.cls o.data=_;rw[d,c];unfold Sx;exact(AN rfl).trans rfl
theorem zCn{l:A0 A2}{k:A0 Nat×A0 Nat}(e:Pq l=some k):∃x t y u,l = [.str x t,.str y u]:=by
 match l,e with
 | [.str x t,.str y u],_=>exact⟨x,t,y,u,rfl⟩
theorem Qd{h:IC}{v:A2}{k:A0 Nat×A0 Nat}(e:NS h v=some k):∃x y,MK h v x y:=by
 match v,e with
 | .ref p,e =>
  have g:(h.get? p).bind (λo=>Sx o.cls o.data)=some k:=e;obtain⟨o,i,b⟩:=Option.bind_eq_some_iff.mp g;cases d:o.data with
  | seq f n =>
   rw[d]at b;have a:(if o.cls = .type "tuple" then Pq f.toList else none)=some k:=b;by_cases c:o.cls = .type "tuple"
   .rw[AN c]at a;obtain⟨x,t,y,u,j⟩:=zCn a;refine⟨x,y,p,o,n,t,u,rfl,i,c,?_⟩;rw[d];have:f = #[.str x t,.str y u]:=by rw[<-Array.toList_inj,j]
    rw[this]
   .rw[AI c]at a;cases a
  | _=>rw[d]at b;cases b
theorem Lc{h:IC}{v:A2}{k:A0 Nat×A0 Nat}{x y:Str}(z:MK h v x y)(e:NS h v=some k):k =(x.cps.toList,y.cps.toList):=by
 rw[z.key]at e;exact(BU e).symm
theorem QI{a:A3}{vs:A0 A2}{F:IC}(B:∀v∈vs,∃x y,MK F v x y)(C:∀b o,F.get? b=some o->b≠a/\s.heap.get? b=some o) :
  R_ prog w a s (pairKind F) (tuples' true) vs:=by
 refine⟨λA G J=>⟨λx y k l Q E O P q=>?_⟩,λv K=>?_,λh2 A E G Q J q=>?_⟩
 .obtain⟨g,m,R⟩:=Qd O;obtain⟨f,i,S⟩:=Qd P;have Y:=Lc R O;have Z:=Lc S P;subst Y Z;obtain⟨px,ox,nx,t1,u1,rfl,U,_,d1⟩:=R;obtain⟨py,oy,ny,t2,u2,rfl,V,_,d2⟩:=S;have f1:=J _ _ (C _ _ U).1 (C _ _ U).2;have f2:=J _ _ (C _ _ V).1 (C _ _ V).2;refine PySem.W.kat_lt f1 d1 f2 d2 ?_;show PySem.W.KatLex prog w A true _ Q [(.str g t1,.str f t2),(.str m u1,.str i u2)] 0 G;refine PySem.W.kat_cons (wpAny_eqBool_str (PySem.W.kat_go (λj=>?_) λj=>?_))
  .have j:g=f:=by simpa using j
   refine PySem.W.kat_yes (PySem.W.kat_cons (wpAny_eqBool_str (PySem.W.kat_go (λh=>?_) λh=>?_)))
   .have h:m=i:=by simpa using h
    refine PySem.W.kat_yes (PySem.W.kat_nil ?_);have:JJ (g.cps.toList,m.cps.toList) (f.cps.toList,i.cps.toList)=decide (2<2):=by
     rw[j,h];exact(pairKind F).irrefl (f.cps.toList,i.cps.toList)
    show Q (decide (2<2)) G;rw[<-this];exact q
   .refine PySem.W.kat_no (PySem.W.kat_one _ _ (lt_str ?_));have:JJ (g.cps.toList,m.cps.toList) (f.cps.toList,i.cps.toList)=decide (m.cps.toList<i.cps.toList):=by
     rw[j];unfold JJ;simp[List.lt_irrefl]
    show Q (decide (m.cps.toList<i.cps.toList)) G;rw[<-this];exact q
  .have j:¬g=f:=by simpa using j
   refine PySem.W.kat_no (oneLt_str ?_);have L:¬g.cps.toList=f.cps.toList:=λz=>j (by cases g;cases f;simp at z;simp[z]);have:JJ (g.cps.toList,m.cps.toList) (f.cps.toList,i.cps.toList)=decide (g.cps.toList<f.cps.toList):=by
    unfold JJ;simp[L]
   rw[<-this];exact q
 .obtain⟨x,y,z⟩:=B v K;exact⟨_,z.key⟩
 .have hT:∀(H:A0 A2),(∀v∈H,∃x y,MK F v x y)->∃D,PySem.W.KatTups G.heap H D/\D.length=H.length/\∀v∈D,∃x t,v = .str x t:=by
   intro H
   induction H with
   | nil=>exact λ_=>⟨[],.nil,rfl,λv B=>by simp at B⟩
   | cons v r ih =>
    intro I;obtain⟨D,M,X,N⟩:=ih λu hu=>I u (AL _ hu);obtain⟨x,y,p,o,n,t,u,rfl,e,c,d⟩:=I v (AX ..);refine⟨.str x t::D,.cons (J _ _ (C _ _ e).1 (C _ _ e).2) c d rfl M,by simp[X],λz hz=>?_⟩;rcases AU.mp hz with rfl | hz
    .exact⟨x,t,rfl⟩
    .exact N z hz
  obtain⟨D,M,X,N⟩:=hT vs B;refine PySem.W.kat_kind (T:=.type "str") M (by lia) (λv B=>?_) (by rfl) q;obtain⟨x,t,rfl⟩:=N v B;exact .now
end
end TS
set_option Elab.async false
namespace L2
open PySem PySem.Spec PyProof.Rows
abbrev IS:=Sum Int Str
def Df:IS->A2->Bool
 | .inl k,v=>Value.isInt k v
 | .inr x,v=>Value.isStrOf x v
def zIv(w:HZ):IS->Int
 | .inl k=>hashInt k
 | .inr x=>hashStr w x
def G8:∀{k:IS} {v:A2},Df k v=true->(∃i t,k=Sum.inl i/\v=Value.int i t)\/(∃x t,k=Sum.inr x/\v=Value.str x t)
 | .inl i,v,h=>by
  obtain⟨t,e⟩:=Value.isInt_shape (k:=i) (v:=v) h;exact .inl ⟨i,t,rfl,e⟩
 | .inr x,v,h=>by
  obtain⟨t,e⟩:=Value.isStrOf_shape (x:=x) (v:=v) h;exact .inr ⟨x,t,rfl,e⟩
def Tk(i:Int)(t:Tok):Df (.inl i) (.int i t)=true:=by simp[Df,Value.isInt]
def Y5(x:Str)(t:Tok):Df (.inr x) (.str x t)=true:=by simp[Df,Value.isStrOf]
def zBt(a b:Int):decide ((Sum.inl a:IS)=Sum.inl b) =(a == b):=by
 by_cases e:a=b
 .subst e;simp
 .have h:¬(Sum.inl a:IS)=Sum.inl b:=λq=>e (Sum.inl.inj q);rw[AM h];exact(beq_eq_false_iff_ne.mpr e).symm
def zBv(a b:Str):decide ((Sum.inr a:IS)=Sum.inr b)=decide (a=b):=by
 by_cases e:a=b
 .subst e;simp
 .have h:¬(Sum.inr a:IS)=Sum.inr b:=λq=>e (Sum.inr.inj q);rw[AM h,AM e]
def zCh(a:Int)(b:Str):decide ((Sum.inl a:IS)=Sum.inr b)=false:=AM (λq=>nomatch q)
def zEt(a:Str)(b:Int):decide ((Sum.inr a:IS)=Sum.inl b)=false:=AM (λq=>nomatch q)
def C8(prog:HX)(w:HZ):PySem.KeyKind prog w IS where
 is:=Df
 hash:=zIv w
 inj:=λv a b g f=>by
  rcases G8 g with⟨i,t,rfl,rfl⟩ | ⟨x,t,rfl,rfl⟩
  .rcases G8 f with⟨j,u,rfl,e⟩ | ⟨y,u,rfl,e⟩
   .injection e with c _;rw[c]
   .exact nomatch e
  .rcases G8 f with⟨j,u,rfl,e⟩ | ⟨y,u,rfl,e⟩
   .exact nomatch e
   .injection e with c _;rw[c]
 byValue:=λk v h=>by
  rcases G8 h with⟨i,t,rfl,rfl⟩ | ⟨x,t,rfl,rfl⟩<;>rfl
 pyHash:=λd h=>by
  rcases G8 d with⟨i,t,rfl,rfl⟩ | ⟨x,t,rfl,rfl⟩
  .exact wpAny_pyHash_int h
  .exact wpAny_pyHash_str h
 eqBool:=λl d h=>by
  rcases G8 l with⟨i,t,rfl,rfl⟩ | ⟨x,t,rfl,rfl⟩
  .rcases G8 d with⟨j,u,rfl,rfl⟩ | ⟨y,u,rfl,rfl⟩
   .rw[zBt]at h;exact wpAny_eqBool_int h
   .rw[zCh]at h;exact SeqAt.EqAt.int_str i t y u _ _ _ _ h
  .rcases G8 d with⟨j,u,rfl,rfl⟩ | ⟨y,u,rfl,rfl⟩
   .rw[zEt]at h;exact SeqAt.EqAt.str_int x t j u _ _ _ _ h
   .rw[zBv]at h;exact wpAny_eqBool_str h
 «strs»:=λk x t v h=>by
  rcases G8 h with⟨i,u,rfl,e⟩ | ⟨y,u,rfl,e⟩
  .exact nomatch e
  .injection e with c _;subst c;cases v<;>rfl
def Ku(prog:HX)(w:HZ)(i:Int)(t:Tok):(C8 prog w).is (.inl i) (.int i t)=true:=Tk i t
def Jk(prog:HX)(w:HZ)(x:Str)(t:Tok):(C8 prog w).is (.inr x) (.str x t)=true:=Y5 x t
inductive V where
 | non | bl (b:Bool) | int (i:Int) | str (x:Str) | byt (b:HW UInt8) | flt (b:UInt64) | ref (a:A3) | ty (n:String)
 deriving DecidableEq
def RelV:V->A2->Prop
 | .non,u=>u=Value.none
 | .bl b,u=>u=Value.bool b
 | .int i,u=>∃t,u=Value.int i t
 | .str x,u=>∃t,u=Value.str x t
 | .byt b,u=>∃t,u=Value.bytes b t
 | .flt b,u=>∃t,u=Value.float b t
 | .ref a,u=>u=Value.ref a
 | .ty n,u=>u=Value.type n
abbrev IJ:A0 V->A0 A2->Prop:=Paired RelV
def IJ.length{xs:A0 V}{us:A0 A2}(r:IJ xs us):xs.length=us.length:=Paired.length r
def IJ.get:∀{xs:A0 V} {us:A0 A2} {i:Nat} {x:V},IJ xs us->xs[i]?=some x->∃u,us[i]?=some u/\RelV x u
 | _,_,_,_,.nil,e=>by simp at e
 | _,_,0,_,.cons r _,e=>by simp at e;subst e;exact⟨_,rfl,r⟩
 | _,_,i+1,x,.cons _ t,e=>by
  obtain⟨u,a,b⟩:=IJ.get (i:=i) (x:=x) t (by simpa using e);exact⟨u,by simpa using a,b⟩
def IJ.set{x:V}{u:A2}(r:RelV x u):∀{xs:A0 V} {us:A0 A2} (i:Nat),IJ xs us->IJ (xs.set i x) (us.set i u)
 | _,_,_,.nil=>.nil
 | _,_,0,.cons _ t=>.cons r t
 | _,_,i+1,.cons q t=>.cons q (IJ.set r i t)
def IJ.append:∀{xs a:A0 V} {us b:A0 A2},IJ xs us->IJ a b->IJ (xs++a) (us++b)
 | _,_,_,_,.nil,s=>s
 | _,_,_,_,.cons r t,s=>.cons r (IJ.append t s)
def IJ.take:∀{xs:A0 V} {us:A0 A2} (n:Nat),IJ xs us->IJ (xs.take n) (us.take n)
 | _,_,0,_=>.nil
 | _,_,_+1,.nil=>.nil
 | _,_,n+1,.cons r t=>.cons r (IJ.take n t)
def IJ.drop:∀{xs:A0 V} {us:A0 A2} (n:Nat),IJ xs us->IJ (xs.drop n) (us.drop n)
 | _,_,0,r=>r
 | _,_,_+1,.nil=>.nil
 | _,_,n+1,.cons _ t=>IJ.drop n t
def IJ.none_of:∀{xs:A0 V} {us:A0 A2} {i:Nat},IJ xs us->xs[i]?=none->us[i]?=none:=fun{xs us i} r e=>by
 have a:=r.length;have b:xs.length<=i:=GY.mp e;exact GY.mpr (by lia)
def Lr:A5 V->A5 A2->Prop
 | some v,some u=>RelV v u
 | none,none=>True
 | _,_=>False
def KV{Z:Type}:A0 (Z×V)->A0 (Z×A2)->Prop:=Paired λ(p:Z×V) (q:Z×A2)=>p.1=q.1/\RelV p.2 q.2
def kV:IS->V
 | .inl i=>.int i
 | .inr x=>.str x
inductive HO where
 | lst (xs:A0 V)
 | tup (xs:A0 V)
 | dK (kvs:A0 (IS×V)) | dT (kvs:A0 (A0 IS×V))
 | set (S:Int->Bool) (n:Nat)
 | ins (C dx:A3) (fs:A0 (Str×V))
 | own (x:A3)
 | xd (fs:A0 (Str×V))
 | met (f x:A3)
 | rng (lo hi:Int)
 | frz (o:Obj) (u:HO)
 | tbl (ps:HW A2)
 | ext (φ:IC->Prop)
set_option genInjectivity false
abbrev Hp:=A3->A5 HO
def H_(H:Hp)(a:A3)(o:HO):Hp:=λb=>if b=a then some o else H b
def A7{H:Hp}{a:A3}{o:HO}:H_ H a o a=some o:=by unfold H_;rw[AN rfl]
def B7{H:Hp}{a b:A3}{o:HO}(h:b≠a):H_ H a o b=H b:=by unfold H_;rw[AI h]
def K0{H:Hp}{a b:A3}{o u:HO}(h:H a=some o)(h':H b=some u)(d:o≠u):a≠b:=by
 intro e;subst e;rw[h]at h';exact d (BU h')
def B0{H:Hp}{a b:A3}{o:HO}(h:H a=some o)(h':H b=none):a≠b:=by
 intro e;subst e;rw[h]at h';cases h'
section
variable(P:HX)(w:HZ)
def IU(H:Hp)(h:IC)(a:A3):HO->Prop
 | .lst d=>d.length<=sizeLine/\∃(b:A0 A2) (n:Nat),IJ d b/\h.get? a=some { cls:=.type "list",data:=.seq b.toArray n }
 | .tup d=>d.length<=sizeLine/\∃b:A0 A2,IJ d b/\IsTup h a b.toArray
 | .dK c=>c.length<=sizeLine/\(a == sysModules)=false/\∃j,KV c j/\h.DictOf (C8 P w) a j
 | .dT c=>c.length<=sizeLine/\(a == sysModules)=false/\∃d:A0 (A0 IS×A3×A2),
   Paired (λ(p:A0 IS×V) (q:A0 IS×A3×A2)=>p.1=q.1/\H q.2.1=some (.tup (p.1.map kV))/\RelV p.2 q.2.2) c d /\
   ∃o k r,h.get? a=some o/\o.ExactDict/\o.data = .dict k r/\k.toList=d.map (entryOfKey (tupleKind (C8 P w)))/\(d.map (·.1)).Nodup
 | .set S n=>h.SetOf (intKind P w) a S n
 | .ins C i g=>H i=some (.own a)/\g.length<=1000/\i≠a/\h.get? a=some (PySem.W.instObj C i) /\
   ∃e,h.Ns1 i e/\(∀f,Lr (g.lookup f) (e f))/\PySem.Within e (g.map (·.1))
 | .own _=>∃o,h.get? a=some o
 | .xd g=>∃e,h.Ns1 a e/\∀f,Lr (g.lookup f) (e f)
 | .rng lo s=>∃t u v,h.get? a=some { cls:=.type "range",data:=.fields #[.int lo t,.int s u,.int 1 v] }
 | .frz o u=>h.get? a=some o/\IU H h a u
 | .tbl ps=>h.get? a=some { cls:=.none,data:=.fields ps }
 | .met f x=>h.get? a=some (PySem.W.methodObj (.ref f) (.ref x))
 | .ext φ=>φ h/\(∃o,h.get? a=some o)/\∀l m:IC,φ l->(∀o,l.get? a=some o->m.get? a=some o)->φ m
def M_(H:Hp)(h:IC):Prop:=∀a o,H a=some o->IU P w H h a o
end
section
variable{P:HX}{w:HZ}{H H':Hp}{h h':IC}{a:A3}{o:HO}
theorem IU.lt(x:IU P w H h a o):a<h.objs.size:=by
 cases o with
 | lst c=>obtain⟨_,_,_,_,e⟩:=x;exact AG e
 | tup c=>obtain⟨_,_,_,p⟩:=x;exact p.lt
 | dK b=>obtain⟨_,_,_,_,o,_,_,e,_⟩:=x;exact AG e
 | dT b=>obtain⟨_,_,_,_,o,_,_,e,_⟩:=x;exact AG e
 | set S n=>obtain⟨o,_,_,_,e,_⟩:=x;exact AG e
 | ins C g d=>obtain⟨_,_,_,e,_⟩:=x;exact AG e
 | own y=>obtain⟨_,e⟩:=x;exact AG e
 | xd d=>obtain⟨_,⟨_,_,_,e,_⟩,_⟩:=x;exact AG e
 | rng lo i=>obtain⟨_,_,_,e⟩:=x;exact AG e
 | frz j u=>obtain⟨e,_⟩:=x;exact AG e
 | tbl ps=>exact AG (show h.get? a=some _ from x)
 | met f y=>exact AG (show h.get? a=some _ from x)
 | ext φ=>obtain⟨_,⟨_,e⟩,_⟩:=x;exact AG e
theorem Paired.mapP{α β:Type}{F G:α->β->Prop}:∀{l₁:A0 α} {l₂:A0 β},Paired F l₁ l₂->(∀a b,F a b->G a b)->Paired G l₁ l₂
 | _,_,.nil,_=>.nil
 | _,_,.cons r t,f=>.cons (f _ _ r) (Paired.mapP t f)
theorem IU.stay(x:IU P w H h a o)(k:∀b u,(b=a\/H b=some (.own a))->h.get? b=some u->h'.get? b=some u)
  (B:∀b,H b=some (.own a)->H' b=some (.own a)) (D:∀b xs,H b=some (.tup xs)->H' b=some (.tup xs)):IU P w H' h' a o:=by
 induction o with
 | lst xs=>obtain⟨z,l,n,r,e⟩:=x;exact⟨z,l,n,r,k _ _ (.inl rfl) e⟩
 | tup xs=>obtain⟨z,l,r,g,e,c⟩:=x;exact⟨z,l,r,g,k _ _ (.inl rfl) e,c⟩
 | dK m=>obtain⟨z,y,E,r,g,i,j,e,c⟩:=x;exact⟨z,y,E,r,g,i,j,k _ _ (.inl rfl) e,c⟩
 | dT m =>
  obtain⟨z,y,xs,r,g,i,j,e,c⟩:=x;exact⟨z,y,xs,Paired.mapP r λp q z=>⟨z.1,D _ _ z.2.1,z.2.2⟩,g,i,j,k _ _ (.inl rfl) e,c⟩
 | set S n=>obtain⟨g,i,j,t,e,c⟩:=x;exact⟨g,i,j,t,k _ _ (.inl rfl) e,c⟩
 | ins C K F =>
  obtain⟨d,z,G,e,s,⟨A,i,j,I,c⟩,r⟩:=x;exact⟨B _ d,z,G,k _ _ (.inl rfl) e,s,⟨A,i,j,k _ _ (.inr d) I,c⟩,r⟩
 | own y=>obtain⟨g,e⟩:=x;exact⟨g,k _ _ (.inl rfl) e⟩
 | xd F=>obtain⟨s,⟨A,i,j,e,c⟩,r⟩:=x;exact⟨s,⟨A,i,j,k _ _ (.inl rfl) e,c⟩,r⟩
 | rng lo L=>obtain⟨t,u,v,e⟩:=x;exact⟨t,u,v,k _ _ (.inl rfl) e⟩
 | frz g u J=>obtain⟨e,q⟩:=x;exact⟨k _ _ (.inl rfl) e,J q⟩
 | tbl ps =>
  have e:h.get? a=some { cls:=.none,data:=.fields ps }:=x;show h'.get? a=some { cls:=.none,data:=.fields ps };exact k a _ (.inl rfl) e
 | met f y =>
  have e:h.get? a=some (PySem.W.methodObj (.ref f) (.ref y)):=x;show h'.get? a=some (PySem.W.methodObj (.ref f) (.ref y));exact k a _ (.inl rfl) e
 | ext φ=>obtain⟨p,⟨o,e⟩,st⟩:=x;exact⟨st _ _ p λo q=>k _ _ (.inl rfl) q,⟨o,k _ _ (.inl rfl) e⟩,st⟩
theorem M_.lt(x:M_ P w H h)(e:H a=some o):a<h.objs.size:=(x a o e).lt
theorem M_.fresh(x:M_ P w H h)(e:h.objs.size<=a):H a=none:=by
 cases q:H a with
 | none=>rfl
 | some u=>exact absurd (BI (x.lt q) e) (DA _)
theorem M_.kept(x:M_ P w H h)(k:∀b u,h.get? b=some u->h'.get? b=some u):M_ P w H h':=λa o e =>
 (x a o e).stay (λb u _ q=>k b u q) (λ_ q=>q) λ_ _ q=>q
theorem M_.laid(x:M_ P w H h)(k:∀b u,h.get? b=some u->h'.get? b=some u)(i:h.objs.size<=a)(d:IU P w (H_ H a o) h' a o):M_ P w (H_ H a o) h':=λb u e=>by
 have f:=x.fresh i;by_cases g:b=a
 .subst g;rw[A7]at e;cases e;exact d
 .rw[B7 g]at e;exact(x b u e).stay (λc v _ q=>k c v q) (λc q=>by rw[B7 (B0 q f)];exact q) λc j q=>by rw[B7 (B0 q f)];exact q
end
def Rd(H:Hp)(a:A3)(u:HO):Prop:=H a=some u\/∃o,H a=some (.frz o u)
def Rd.ok{P:HX}{w:HZ}{H:Hp}{h:IC}{a:A3}{u:HO}(r:Rd H a u)(x:M_ P w H h):IU P w H h a u:=by
 rcases r with r | ⟨o,r⟩
 .exact x a u r
 .obtain⟨_,q⟩:=x a _ r;exact q
def TW:A5 HO->Prop
 | some (.lst _)=>True
 | some (.dK _)=>True
 | some (.dT _)=>True
 | some (.set _ _)=>True
 | some (.ins _ _ _)=>True
 | some (.ext _)=>True
 | _=>False
section
variable{P:HX}{w:HZ}{H:Hp}{h h':IC}{x e:A3}{o':HO}
theorem M_.write(p:M_ P w H h)(g:TW (H x))(n:e=x\/H e=some (.own x))(k:∀b u,b≠e->h.get? b=some u->h'.get? b=some u)(l:∃u,h'.get? e=some u)
  (m:IU P w (H_ H x o') h' x o'):M_ P w (H_ H x o') h':=λb u q=>by
 have d:∀c y,H c=some (.own y)->c≠x:=λc y r z=>by subst z;rw[r]at g;exact g
 have f:∀c i,H c=some (.tup i)->c≠x:=λc i r z=>by subst z;rw[r]at g;exact g
 by_cases j:b=x
 .subst j;rw[A7]at q;cases q;exact m
 .rw[B7 j]at q;by_cases a:b=e
  .have o:H b=some (.own x):=by
    rcases n with z | z
    .exact absurd (a.trans z) j
    .rw[a];exact z
   rw[q]at o;cases o;obtain⟨v,s⟩:=l;exact⟨v,by rw[a];exact s⟩
  .refine(p b u q).stay (λc v hc r=>k c v ?_ r) (λc r=>by rw[B7 (d c b r)];exact r) λc i r=>by rw[B7 (f c i r)];exact r
   rcases hc with rfl | hc
   .exact a
   .rintro rfl;rcases n with z | z
    .exact d c b hc z
    .rw[hc]at z;cases z;exact j rfl
end
structure Un(fs ex:A0 A3)(H H':Hp)(h h':IC):Prop where
 keep:∀b o,h.get? b=some o->H b=none->b∉fs->b∉ex->h'.get? b=some o
 slot:∀b o,h.get? b=some o->H b=none->b∈fs->b∉ex->∃sl,h'.get? b=some { o with slots:=sl }
 free:∀b o,h.get? b=some o->H b=none->b∉ex->H' b=none
 there:∀b o,h.get? b=some o->b∉ex->∃o',h'.get? b=some o'
 tups:∀b xs,H b=some (.tup xs)->H' b=some (.tup xs)
 frzs:∀b o u,H b=some (.frz o u)->H' b=some (.frz o u)
 tbls:∀b ps,H b=some (.tbl ps)->∃more,H' b=some (.tbl (ps++more))
section
variable{fs fs' ex ex':A0 A3}{H H1 H2:Hp}{h h1 h2 h':IC}{a x e:A3}{o:HO}
theorem Un.any(u:Un fs ex H H1 h h1){b:A3}{ob:Obj}(q:h.get? b=some ob)(n:H b=none)(a:b∉ex):∃d,h1.get? b=some { ob with slots:=d }:=by
 by_cases c:b∈fs
 .exact u.slot b ob q n c a
 .exact⟨ob.slots,u.keep b ob q n c a⟩
theorem Un.kept(k:∀b u,h.get? b=some u->h'.get? b=some u):Un fs ex H H h h' :=
 ⟨λb a q _ _ _=>k b a q,λb a q _ _ _=>⟨a.slots,k b a q⟩,λ_ _ _ n _=>n,λb a q _=>⟨a,k b a q⟩,λ_ _ q=>q,λ_ _ _ q=>q,λ_ ps q=>⟨#[],by rw[q];simp⟩⟩
theorem Un.refl:Un fs ex H H h h:=Un.kept λ_ _ q=>q
theorem Un.laid(k:∀b u,h.get? b=some u->h'.get? b=some u)(d:h.objs.size<=a)(c:H a=none):Un fs ex H (H_ H a o) h h' where
 keep:=λb u q _ _ _=>k b u q
 slot:=λb u q _ _ _=>⟨u.slots,k b u q⟩
 free:=λb u q n _=>by rw[B7 (BA (BI (AG q) d))];exact n
 there:=λb u q _=>⟨u,k b u q⟩
 tups:=λb e q=>by rw[B7 (B0 q c)];exact q
 frzs:=λb u e q=>by rw[B7 (B0 q c)];exact q
 tbls:=λb ps q=>⟨#[],by rw[B7 (B0 q c),q];simp⟩
theorem Un.write(c:TW (H x))(j:e=x\/H e=some (.own x))(k:∀b u,b≠e->h.get? b=some u->h'.get? b=some u)(d:∃u,h'.get? e=some u):Un fs ex H (H_ H x o) h h':=by
 have g:∀b,H b=none->b≠x:=λb n z=>by subst z;rw[n]at c;exact c
 have i:∀b,H b=none->b≠e:=λb n z=>by
  subst z;rcases j with r | r
  .exact g b n r
  .rw[n]at r;cases r
 have f:∀b u,H b=some u->¬TW (some u)->b≠x:=λb u q l z=>by subst z;rw[q]at c;exact l c
 refine⟨λb u q n _ _=>k b u (i b n) q,λb u q n _ _=>⟨u.slots,k b u (i b n) q⟩,λb u q n _=>by rw[B7 (g b n)];exact n,λb u q _=>?_,
  λb m q=>by rw[B7 (f b _ q λz=>z)];exact q,λb u m q=>by rw[B7 (f b _ q λz=>z)];exact q,λb ps q=>⟨#[],by rw[B7 (f b _ q λz=>z),q];simp⟩⟩
 by_cases a:b=e
 .subst a;exact d
 .exact⟨u,k b u a q⟩
end
def SE(h:IC)(H:Hp):A0 A3:=(List.range h.objs.size).filter λa=>(H a).isSome
def Wu(h:IC)(H:Hp):IC:=PySem.W.hideAll h (SE h H)
def Th(h:IC)(H:Hp):(Wu h H).objs.size=h.objs.size:=PySem.W.hideAll_size _ _
def Wp{h:IC}{H:Hp}{b:A3}{o:Obj}(e:h.get? b=some o)(n:H b=none):(Wu h H).get? b=some o :=
 PySem.W.hideAll_get _ e λa=>by
  have q:(H b).isSome=true:=(AY.mp a).2;rw[n]at q;simp at q
def Zz{h:IC}{H:Hp}{b:A3}{o:Obj}(e:(Wu h H).get? b=some o):h.get? b=some o/\H b=none:=by
 have a:h.get? b=some o:=PySem.W.of_hideAll (SE h H) e;refine⟨a,?_⟩;cases q:H b with
 | none=>rfl
 | some x =>
  have c:b∈SE h H:=AY.mpr ⟨DC.mpr (AG a),by simp[q]⟩;have z:(Wu h H).get? b=none:=PySem.W.hideAll_none (SE h H) c;rw[z]at e;cases e
structure Mod(K:VA)(mg:Str->A5 A2)(base:IC):Prop where
 kin:K.In base
 glob:base.Ns mainGlobals mg
 blt:∃mb,base.Ns builtinsNs mb/\∀x:Str,x≠ "__name__"->mb x=bootBuiltins x
 nolimit:base.NoLimit
set_option genInjectivity false in
structure Cx where
 prog:HX
 w:HZ
 K:VA
 mg:Str->A5 A2
 base:IC
 A:IE
 N:A0 Str
 s₀:A4
 H₀:Hp
 env:QY
 outer:A0 QY
 stack:A0 QY
 ex:A0 A3
 fn:Str->Bool
 calm:Bool
 pn:A0 (A3×Obj)
 xe:A2->A4->Prop
def OB(l:A0 QY):A0 A3:=l.filterMap (·.frame)
abbrev Cx.fs(X:Cx):A0 A3:=OB X.outer
def Vis(a:KR)(x:Str):Prop:=a.names.lookup x=some .local\/a.names.lookup x=some .cell\/a.names.lookup x=some .free
def Loc(a:KR)(x:Str):Prop:=a.names.lookup x=some .local\/a.names.lookup x=some .cell
def zIm(a:QY)(h:IC)(m:Str->A5 A2)(x:Str)(u:A2):Prop :=
 (a.kindOf x=some .local/\m x=some u)\/((a.kindOf x=some .cell\/a.kindOf x=some .free)/\∃c,a.cells.lookup x=some c/\h.IsCell c (some u))
structure Cx.Ok(X:Cx):Prop where
 mod:Mod X.K X.mg X.base
 kind:X.env.scope.kind = .function
 glob:X.env.globals=mainGlobals
 blt:X.env.builtins=builtinsNs
 above:X.s₀.heap.objs.size<=X.env.locals
 inj:∀x y c,X.env.cells.lookup x=some c->X.env.cells.lookup y=some c->x=y
 has:∀x,(X.env.kindOf x=some .cell\/X.env.kindOf x=some .free)->∃c,X.env.cells.lookup x=some c
 cab:∀x c,X.fn x=true->X.env.cells.lookup x=some c->X.s₀.heap.objs.size<=c
 hd:X.calm=true->X.A.handled=none
 frames:X.A.frames=some X.stack
 stk:X.stack=X.outer\/(X.stack=X.env::X.outer/\X.env.frame=some X.env.locals)
 exf:∀b∈X.ex,b≠X.env.locals/\∀x c,X.env.cells.lookup x=some c->c≠b
 bs:∀b o,X.base.get? b=some o->X.s₀.heap.get? b=some o/\X.H₀ b=none
 bsz:X.base.objs.size<=X.s₀.heap.objs.size
 noex:∀b o,X.base.get? b=some o->b∉X.ex
 exfs:∀b∈X.ex,b∉X.fs
 funs:X.s₀.heap.FunFrames X.base X.outer
 frf:∀b∈X.fs,X.H₀ b=none
structure Inv(X:Cx)(pins:A0 (A3×Obj))(σ:A0 (A5 V))(H:Hp)(s:A4):Prop where
 ok:X.Ok
 os:s.os=X.s₀.os
 bare:AllBare s.gens
 base:Un X.fs X.ex X.H₀ H X.s₀.heap s.heap
 loc:∃m,s.heap.Ns X.env.locals m/\∀(i:Nat) (x:Str) (v:V),X.N[i]?=some x->σ[i]?=some (some v)->Vis X.env.scope x->∃u,RelV v u/\zIm X.env s.heap m x u
 cell:∀x c,X.env.cells.lookup x=some c->∃v,s.heap.IsCell c v
 free:H X.env.locals=none
 freeC:∀x c,X.env.cells.lookup x=some c->H c=none
 pin:∀p∈X.pn++pins,s.heap.get? p.1=some p.2/\H p.1=none/\p.1≠X.env.locals/\p.1∉X.fs/\∀v,p.2.data≠ .cell v
 hok:M_ X.prog X.w H s.heap
 len:σ.length=X.N.length
section
variable{X:Cx}{pins:A0 (A3×Obj)}{σ:A0 (A5 V)}{H H':Hp}{s:A4}{h':IC}
theorem Cx.Ok.nofr(a:X.Ok){b:A3}{o:Obj}(e:X.base.get? b=some o):b∉X.fs:=λc=>by
 have:=(a.funs.mem c).1;rw[e]at this;cases this
theorem Inv.bs(I:Inv X pins σ H s):∀b o,X.base.get? b=some o->s.heap.get? b=some o/\H b=none:=λb o e =>
 ⟨I.base.keep b o (I.ok.bs b o e).1 (I.ok.bs b o e).2 (I.ok.nofr e) (I.ok.noex b o e),I.base.free b o (I.ok.bs b o e).1 (I.ok.bs b o e).2 (I.ok.noex b o e)⟩
theorem Inv.bk(I:Inv X pins σ H s):∀b o,X.base.get? b=some o->s.heap.get? b=some o:=λb o e=>(I.bs b o e).1
theorem Inv.mod(I:Inv X pins σ H s):Mod X.K X.mg X.base:=I.ok.mod
theorem Inv.kIn(I:Inv X pins σ H s):X.K.In s.heap:=I.ok.mod.kin.keeps I.bk
theorem Inv.lt(I:Inv X pins σ H s):X.env.locals<s.heap.objs.size:=let⟨_,a,_⟩:=I.loc;a.lt
theorem Inv.sz(I:Inv X pins σ H s):X.s₀.heap.objs.size<=s.heap.objs.size:=VE I.ok.above (DR I.lt)
theorem Inv.nofs(I:Inv X pins σ H s){a:A3}(h:s.heap.objs.size<=a):a∉X.fs:=λb=>by
 obtain⟨_,o,c,_⟩:=I.ok.funs.mem b;exact absurd (BI (AG c) (VE I.sz h)) (DA _)
theorem Inv.cne(I:Inv X pins σ H s):∀x c,X.env.cells.lookup x=some c->c≠X.env.locals:=λx c e z=>by
 obtain⟨v,o,d,f⟩:=I.cell x c e;obtain⟨m,⟨g,h,i,a,b,_⟩,_⟩:=I.loc;rw[z,a]at d;cases d;rw[b]at f;cases f
theorem Inv.funs(I:Inv X pins σ H s):s.heap.FunFrames X.base X.outer:=by
 have a:∀(l:A0 QY),(∀b∈OB l,b∈X.fs)->X.s₀.heap.FunFrames X.base l->s.heap.FunFrames X.base l:=by
  intro l
  induction l with
  | nil=>intro _ _;trivial
  | cons h r i =>
   intro g j;obtain⟨k,⟨L,o,c,m,n,p⟩,q⟩:=j;have d:L∈X.fs:=g L (by unfold OB;rw[EW,c];exact AX);obtain⟨t,e⟩:=I.base.slot L o n (I.ok.frf L d) d λz=>I.ok.exfs L z d;exact⟨k,⟨L,_,c,m,e,p⟩,i (λb f=>g b (by unfold OB;rw[EW,c];exact AL _ f)) q⟩
 exact a X.outer (λ_ f=>f) I.ok.funs
theorem Inv.stack(I:Inv X pins σ H s):s.heap.FunFrames X.base X.stack:=by
 rcases I.ok.stk with e | ⟨e,a⟩
 .rw[e];exact I.funs
 .rw[e];obtain⟨m,b,_⟩:=I.loc;refine .cons (by rw[I.ok.kind];decide) a b ?_ I.funs;exact Heap.get?_none_of_le (VE I.ok.bsz I.ok.above)
theorem Inv.stkSub(I:Inv X pins σ H s):∀b∈OB X.stack,b∈X.env.locals::X.fs:=λb a=>by
 rcases I.ok.stk with e | ⟨e,c⟩
 .rw[e]at a;exact AL _ a
 .rw[e]at a;unfold OB at a;rw[EW,c]at a;exact a
theorem Inv.stkFree(I:Inv X pins σ H s):∀b∈OB X.stack,H b=none:=λb hb=>by
 rcases AU.mp (I.stkSub b hb)with e | hb
 .rw[e];exact I.free
 .obtain⟨_,o,a,_⟩:=I.ok.funs.mem hb;exact I.base.free b o a (I.ok.frf b hb) λz=>I.ok.exfs b z hb
theorem Inv.step{g':HW GenState}{t':Nat}{d':Drawn}{ch:A0 A3}(I:Inv X pins σ H s)
  (g:∀b∈ch,(b∈X.ex\/X.s₀.heap.objs.size<=b)/\b≠X.env.locals/\(∀x c,X.env.cells.lookup x=some c->c≠b)/\∀p∈X.pn++pins,p.1≠b)
  (h:∀b o,b≠X.env.locals->b∉X.fs->b∉ch->s.heap.get? b=some o->H b=none->h'.get? b=some o)
  (B:∀b o,b≠X.env.locals->b∈X.fs->b∉ch->s.heap.get? b=some o->H b=none->∃N,h'.get? b=some { o with slots:=N }) (f:∀b o,b∉ch->s.heap.get? b=some o->H b=none->H' b=none)
  (C:∀b o,b∉ch->s.heap.get? b=some o->∃F,h'.get? b=some F)
  (G:∀b xs,H b=some (.tup xs)->H' b=some (.tup xs)) (J:∀b o u,H b=some (.frz o u)->H' b=some (.frz o u)) (K:∀b ps,H b=some (.tbl ps)->∃more,H' b=some (.tbl (ps++more)))
  (ns:∀m,s.heap.Ns X.env.locals m->h'.Ns X.env.locals m) (O:M_ X.prog X.w H' h') (V:AllBare g') :
  Inv X pins σ H' { s with heap:=h',gens:=g',drawn:=d',toks:=t' }:=by
 have L:∀b o,X.s₀.heap.get? b=some o->b≠X.env.locals:=λb o e=>BA (BI (AG e) I.ok.above);have y:∀b o,X.s₀.heap.get? b=some o->b∉X.ex->b∉ch:=λb o e a D=>by
  rcases(g b D).1 with z | z
  .exact a z
  .exact absurd (BI (AG e) z) (DA _)
 have j:∀x c,X.env.cells.lookup x=some c->∀v,s.heap.IsCell c v->h'.IsCell c v:=λx c e v ⟨o,E,P⟩=>by
  have t:c∉ch:=λz=>(g c z).2.2.1 x c e rfl;by_cases R:c∈X.fs
  .obtain⟨N,q⟩:=B c o (I.cne x c e) R t E (I.freeC x c e);exact⟨_,q,P⟩
  .exact⟨o,h c o (I.cne x c e) R t E (I.freeC x c e),P⟩
 refine⟨I.ok,I.os,V,⟨λb o e n D a=>?_,λb o e n D a=>?_,λb o e n a=>?_,λb o e a=>?_,λb xs e=>G b xs (I.base.tups b xs e),λb o xs e=>J b o xs (I.base.frzs b o xs e),λb ps e=>?_⟩,?_,λx c e=>?_,?_,λx c e=>?_,λp S=>?_,O,I.len⟩
 .exact h b o (L b o e) D (y b o e a) (I.base.keep b o e n D a) (I.base.free b o e n a)
 .obtain⟨N,A⟩:=I.base.slot b o e n D a;obtain⟨Q,M⟩:=B b _ (L b o e) D (y b o e a) A (I.base.free b o e n a);exact⟨Q,M⟩
 .obtain⟨F,A⟩:=I.base.there b o e a;exact f b F (y b o e a) A (I.base.free b o e n a)
 .obtain⟨F,A⟩:=I.base.there b o e a;exact C b F (y b o e a) A
 .obtain⟨W,A⟩:=I.base.tbls b ps e;obtain⟨Y,M⟩:=K b _ A;exact⟨W++Y,by rw[M,Array.append_assoc]⟩
 .obtain⟨m,Z,hl⟩:=I.loc;refine⟨m,ns m Z,λi x v A M e3=>?_⟩;obtain⟨u,r,l⟩:=hl i x v A M e3;refine⟨u,r,?_⟩;rcases l with l | ⟨k,c,e,z⟩
  .exact .inl l
  .exact .inr ⟨k,c,e,j x c e _ z⟩
 .obtain⟨v,z⟩:=I.cell x c e;exact⟨v,j x c e v z⟩
 .obtain⟨m,⟨o,_,_,E,_⟩,_⟩:=I.loc;exact f _ o (λz=>(g _ z).2.1 rfl) E I.free
 .obtain⟨v,o,E,P⟩:=I.cell x c e;exact f c o (λz=>(g c z).2.2.1 x c e rfl) E (I.freeC x c e)
 .obtain⟨e,n,T,U,d⟩:=I.pin p S;have t:p.1∉ch:=λz=>(g p.1 z).2.2.2 p S rfl;exact⟨h p.1 p.2 T U t e n,f p.1 p.2 t e n,T,U,d⟩
theorem Inv.un{t':Nat}(I:Inv X pins σ H s)(u:Un X.fs [] H H' s.heap h')(c:M_ X.prog X.w H' h'):Inv X pins σ H' { s with heap:=h',toks:=t' }:=by
 obtain⟨m,⟨o,l,p,h,r⟩,_⟩:=id I.loc;obtain⟨q,i⟩:=u.any h I.free (by simp);exact I.step (g':=s.gens) (d':=s.drawn) (ch:=[]) (λ_ z=>nomatch z) (λb o _ d _ e n=>u.keep b o e n d (by simp)) (λb o _ d _ e n=>u.slot b o e n d (by simp)) (λb o _ e n=>u.free b o e n (by simp)) (λb o _ e=>u.there b o e (by simp)) u.tups u.frzs u.tbls (λt j=>by
  obtain⟨v,f,g,a,k⟩:=j;rw[h]at a;cases a;exact⟨_,f,g,i,k⟩) c I.bare
theorem Inv.call{g':HW GenState}{t':Nat}{d':Drawn}{ch:A0 A3}(I:Inv X pins σ H s)(u:Un (OB X.stack) ch H H' s.heap h')(g:M_ X.prog X.w H' h')(l:AllBare g')
  (d:∀b∈ch,(b∈X.ex\/X.s₀.heap.objs.size<=b)/\b≠X.env.locals/\(∀x c,X.env.cells.lookup x=some c->c≠b)/\∀p∈X.pn++pins,p.1≠b) :
  Inv X pins σ H' { s with heap:=h',gens:=g',drawn:=d',toks:=t' }:=by
 obtain⟨m,⟨o,y,A,k,r⟩,_⟩:=id I.loc;obtain⟨B,h⟩:=u.any k I.free λz=>(d _ z).2.1 rfl;exact I.step (ch:=ch) d (λb o h q a e n=>u.keep b o e n (λz=>(AU.mp (I.stkSub b z)).elim h q) a) (λb o _ _ a e n=>u.any e n a) (λb o a e n=>u.free b o e n a) (λb o a e=>u.there b o e a) u.tups u.frzs u.tbls (λC t=>by
  obtain⟨D,i,j,f,v⟩:=t;rw[k]at f;cases f;exact⟨_,i,j,h,v⟩) g l
theorem Inv.turned{t':Nat}{a:A3}(I:Inv X pins σ H s)(k:∀b o,b≠a->s.heap.get? b=some o->h'.get? b=some o)(h:H a=none)(g:a≠X.env.locals)
  (h1:a∈X.ex\/X.s₀.heap.objs.size<=a) (h2:∀x c,X.env.cells.lookup x=some c->c≠a) (i:∀p∈X.pn++pins,p.1≠a):Inv X pins σ H { s with heap:=h',toks:=t' }:=by
 have f:∀b u,H b=some u->b≠a:=λb u e z=>by rw[z,h]at e;cases e
 refine I.step (g':=s.gens) (d':=s.drawn) (ch:=[a]) (λb j=>?_) (λb o _ _ d e _=>k b o (λz=>d (by simp[z])) e) (λb o _ _ d e _=>⟨o.slots,k b o (λz=>d (by simp[z])) e⟩) (λ_ _ _ _ n=>n)
  (λb o d e=>⟨o,k b o (λz=>d (by simp[z])) e⟩) (λ_ _ e=>e) (λ_ _ _ e=>e) (λb ps e=>⟨#[],by rw[e];simp⟩) (λm l=>?_) (λb u e=>?_) I.bare
 .have e:b=a:=by simpa using j
  subst e;exact⟨h1,g,h2,i⟩
 .obtain⟨o,t,w,y,r⟩:=l;exact⟨o,t,w,k _ o (Ne.symm g) y,r⟩
 .refine(I.hok b u e).stay (λc v d q=>k c v ?_ q) (λ_ q=>q) λ_ _ q=>q;rcases d with z | z
  .rw[z];exact f b u e
  .exact f c _ z
theorem Inv.tok(I:Inv X pins σ H s)(t:Nat):Inv X pins σ H { s with toks:=t }:=I.un (h':=s.heap) (t':=t) Un.refl I.hok
theorem Inv.kept{t':Nat}(I:Inv X pins σ H s)(k:∀b u,s.heap.get? b=some u->h'.get? b=some u):Inv X pins σ H { s with heap:=h',toks:=t' }:=I.un (Un.kept k) (I.hok.kept k)
theorem Inv.laid{a:A3}{o:HO}{t':Nat}(I:Inv X pins σ H s)(k:∀b u,s.heap.get? b=some u->h'.get? b=some u)(c:s.heap.objs.size<=a)(d:IU X.prog X.w (H_ H a o) h' a o) :
  Inv X pins σ (H_ H a o) { s with heap:=h',toks:=t' }:=I.un (Un.laid k c (I.hok.fresh c)) (I.hok.laid k c d)
theorem Inv.write{x e:A3}{o:HO}{t':Nat}(I:Inv X pins σ H s)(d:TW (H x))(f:e=x\/H e=some (.own x))(k:∀b u,b≠e->s.heap.get? b=some u->h'.get? b=some u)(a:∃u,h'.get? e=some u)
  (c:IU X.prog X.w (H_ H x o) h' x o):Inv X pins σ (H_ H x o) { s with heap:=h',toks:=t' }:=I.un (Un.write d f k a) (I.hok.write d f k a c)
theorem Inv.pins_of{a:A0 (A3×Obj)}(I:Inv X pins σ H s)(h:∀p∈a,s.heap.get? p.1=some p.2/\H p.1=none/\p.1≠X.env.locals/\p.1∉X.fs/\∀v,p.2.data≠ .cell v):Inv X a σ H s :=
 ⟨I.ok,I.os,I.bare,I.base,I.loc,I.cell,I.free,I.freeC,λp b=>(AO.mp b).elim (λz=>I.pin p (CQ _ z)) (h p),I.hok,I.len⟩
theorem Fk{N:A0 Str}(c:N.Nodup){i j:Nat}{x:Str}(a:N[i]?=some x)(b:N[j]?=some x):i=j:=by
 obtain⟨f,d⟩:=AK.mp a;obtain⟨g,e⟩:=AK.mp b;exact(List.getElem_inj c).mp (d.trans e.symm)
theorem Cm{M:Model}{A:IE}{E:A2->A4->Prop}{i:Nat}{x:Str}{v:V}{u:A2}{Q:Unit->A4->Prop}(I:Inv X pins σ H s)(hN:X.N.Nodup)(hi:X.N[i]?=some x)(t:Loc X.env.scope x)(r:RelV v u)
  (h:∀W,Inv X pins (σ.set i (some v)) H W->(∃a,Heap.SameBut a s.heap W.heap/\(a=X.env.locals\/X.env.cells.lookup x=some a))->Q () W) (hf:X.fn x=true\/X.env.scope.names.lookup x=some .local:=by first | exact .inl rfl | exact .inr rfl | assumption):wpAny M A (storeName X.env x u) Q E s:=by
 obtain⟨m,Y,hl⟩:=id I.loc;have K:(X.env.scope.kind == .class||(X.env.scope.kind == .module&&X.env.locals != X.env.globals))=false:=by rw[I.ok.kind];rfl
 have hiσ:i<σ.length:=by rw[I.len];exact(AK.mp hi).1
 have D:=I.cne;have g:∀{a:A3} {h':IC},(∃o,s.heap.get? a=some o/\H a=none)->Heap.SameBut a s.heap h'->M_ X.prog X.w H h':=fun{a h'} ha f b ob e=>by
  obtain⟨_,_,B⟩:=ha;refine(I.hok b ob e).stay (λc S hc q=>(f.2 c ?_).trans q) (λ_ q=>q) λ_ _ q=>q;rintro rfl;rcases hc with rfl | hc
  .rw[B]at e;cases e
  .rw[B]at hc;cases hc
 rcases t with hk | hk
 .refine wpAny_storeName_local hk Y (λh' Z f=>?_) K;obtain⟨oL,_,_,hoL,_⟩:=id Y;refine h _ ⟨I.ok,I.os,I.bare,⟨λb o e n F t=>?_,λb o e n F t=>?_,I.base.free,λb o e t=>?_,I.base.tups,I.base.frzs,I.base.tbls⟩,⟨_,Z,λj y v' l C e3=>?_⟩,λy c e=>?_,I.free,I.freeC,λp hp=>?_,g ⟨oL,hoL,I.free⟩ f,by simpa using I.len⟩ ⟨_,f,.inl rfl⟩
  .exact(f.2 b (BA (BI (AG e) I.ok.above))).trans (I.base.keep b o e n F t)
  .obtain⟨sl,l⟩:=I.base.slot b o e n F t;exact⟨sl,(f.2 b (BA (BI (AG e) I.ok.above))).trans l⟩
  .obtain⟨o',l⟩:=I.base.there b o e t;exact⟨o',(f.2 b (BA (BI (AG e) I.ok.above))).trans l⟩
  .by_cases G:j=i
   .subst G;rw[hi]at l;cases l;rw[HI hiσ]at C;cases C;exact⟨u,r,.inl ⟨hk,by simp⟩⟩
   .rw[GR (Ne.symm G)]at C;obtain⟨u',r',q⟩:=hl j y v' l C e3;refine⟨u',r',?_⟩;rcases q with⟨k,e⟩ | ⟨k,c,e,z⟩
    .refine .inl ⟨k,?_⟩;have:y≠x:=λe=>G (Fk hN l (e▸hi));simp[this,e]
    .exact .inr ⟨k,c,e,z.sameBut f (D y c e)⟩
  .obtain⟨S,z⟩:=I.cell y c e;exact⟨S,z.sameBut f (D y c e)⟩
  .obtain⟨e,n,T,nf,d⟩:=I.pin p hp;exact⟨(f.2 p.1 T).trans e,n,T,nf,d⟩
 .have J:X.fn x=true:=by
   rcases hf with z | z
   .exact z
   .rw[z]at hk;cases hk
  obtain⟨c,hc⟩:=I.ok.has x (.inl hk);obtain⟨S,z⟩:=I.cell x c hc;refine wpAny_storeName_cell I.ok.kind hk hc z (λh' L f=>?_);obtain⟨oc,O,P⟩:=id z;refine h { s with heap:=h' } ⟨I.ok,I.os,I.bare,⟨λb o e n F t=>?_,λb o e n F t=>?_,I.base.free,λb o e t=>?_,I.base.tups,I.base.frzs,I.base.tbls⟩,⟨m,Y.sameBut f (Ne.symm (D x c hc)),λj y v' l C e3=>?_⟩,λy U e=>?_,I.free,I.freeC,λp hp=>?_,g ⟨oc,O,I.freeC x c hc⟩ f,by simpa using I.len⟩ ⟨c,f,.inr hc⟩
  .exact(f.2 b (BA (BI (AG e) (I.ok.cab x c J hc)))).trans (I.base.keep b o e n F t)
  .obtain⟨sl,l⟩:=I.base.slot b o e n F t;exact⟨sl,(f.2 b (BA (BI (AG e) (I.ok.cab x c J hc)))).trans l⟩
  .obtain⟨o',l⟩:=I.base.there b o e t;exact⟨o',(f.2 b (BA (BI (AG e) (I.ok.cab x c J hc)))).trans l⟩
  .by_cases G:j=i
   .subst G;rw[hi]at l;cases l;rw[HI hiσ]at C;cases C;exact⟨u,r,.inr ⟨.inl hk,c,hc,L⟩⟩
   .rw[GR (Ne.symm G)]at C;obtain⟨u',r',q⟩:=hl j y v' l C e3;refine⟨u',r',?_⟩;rcases q with q | ⟨k,U,e,z'⟩
    .exact .inl q
    .refine .inr ⟨k,U,e,z'.sameBut f ?_⟩;rintro rfl;exact G (Fk hN l (I.ok.inj _ _ _ e hc▸hi))
  .by_cases R:U=c
   .subst R;exact⟨_,L⟩
   .obtain⟨w2,z2⟩:=I.cell y U e;exact⟨w2,z2.sameBut f R⟩
  .obtain⟨e,n,T,nf,d⟩:=I.pin p hp;refine⟨(f.2 p.1 ?_).trans e,n,T,nf,d⟩;intro q;rw[q,O]at e;have q':oc=p.2:=BU e;exact d S (by rw[<-q'];exact P)
theorem V7{M:Model}{A:IE}{E:A2->A4->Prop}{i:Nat}{x:Str}{v:V}{u:A2}{Q:Unit->A4->Prop}(I:Inv X pins σ H s)(b:X.N.Nodup)(hi:X.N[i]?=some x)(c:Loc X.env.scope x)(r:RelV v u)
  (h:∀a,Inv X pins (σ.set i (some v)) H a->Q () a) (d:X.fn x=true\/X.env.scope.names.lookup x=some .local:=by first | exact .inl rfl | exact .inr rfl | assumption):wpAny M A (storeName X.env x u) Q E s :=
 Cm I b hi c r (λa e _=>h a e) d
theorem Inv.call'{a:A4}{ch:A0 A3}(I:Inv X pins σ H s)(g:a.os=s.os)(u:Un (OB X.stack) ch H H' s.heap a.heap)(d:M_ X.prog X.w H' a.heap)(h:AllBare a.gens)
  (f:∀b∈ch,(b∈X.ex\/X.s₀.heap.objs.size<=b)/\b≠X.env.locals/\(∀x c,X.env.cells.lookup x=some c->c≠b)/\∀p∈X.pn++pins,p.1≠b):Inv X pins σ H' a:=by
 obtain⟨h',g',d',t',i⟩:=a;have e:i=s.os:=g;subst e;exact I.call (g':=g') (t':=t') (d':=d') u d h f
end
abbrev XK:=A2->A5 A3->Hp->Prop
abbrev St:=A0 (A5 V)
abbrev VK:=V->Hp->Prop
abbrev TE:=St->Hp->VK->Prop
abbrev TT:=St->Hp->(Bool->Hp->Prop)->Prop
abbrev TA:=St->Hp->(A0 V->Hp->Prop)->Prop
set_option genInjectivity false in
structure Ends where
 nx:St->Hp->Prop
 rt:VK
 bk:St->Hp->Prop:=λ_ _=>False
 ct:St->Hp->Prop:=λ_ _=>False
abbrev TS:=Ends->St->Hp->Prop
def EP(X:Cx)(a:A0 (A3×Obj))(σ:St)(Q:VK)(u:A2)(c:A4):Prop:=∃v b,Inv X a σ b c/\RelV v u/\Q v b
def TP(X:Cx)(a:A0 (A3×Obj))(σ:St)(Q:Bool->Hp->Prop)(b:Bool)(d:A4):Prop:=∃c,Inv X a σ c d/\Q b c
def AP(X:Cx)(a:A0 (A3×Obj))(σ:St)(Q:A0 V->Hp->Prop)(us:A0 A2)(d:A4):Prop:=∃b c,Inv X a σ c d/\IJ b us/\Q b c
def SP(X:Cx)(a:A0 (A3×Obj))(D:Ends)(f:Flow)(c:A4):Prop :=
 match f with
 | .next=>∃σ' b,Inv X a σ' b c/\D.nx σ' b
 | .brk=>∃σ' b,Inv X a σ' b c/\D.bk σ' b
 | .cont=>∃σ' b,Inv X a σ' b c/\D.ct σ' b
 | .ret u=>∃v σ' b,Inv X a σ' b c/\RelV v u/\D.rt v b
def PE(X:Cx)(e:IG)(t:TE):Prop :=
 ∀(a:A0 (A3×Obj)) (s:A4) (σ:St) (H:Hp) (Q:VK),Inv X a σ H s->t σ H Q->wpAny (model X.prog X.w) X.A (eval e X.env) (EP X a σ Q) X.xe s
def PT(X:Cx)(e:IG)(t:TT):Prop :=
 ∀(a:A0 (A3×Obj)) (s:A4) (σ:St) (H:Hp) (Q:Bool->Hp->Prop),Inv X a σ H s->t σ H Q->wpAny (model X.prog X.w) X.A (isTrue e X.env (eval e X.env)) (TP X a σ Q) X.xe s
def PW(X:Cx)(e:IG)(t:TT):Prop :=
 ∀(b:Sem A2) (a:A0 (A3×Obj)) (s:A4) (σ:St) (H:Hp) (Q:Bool->Hp->Prop),Inv X a σ H s->t σ H Q->wpAny (model X.prog X.w) X.A (isTrue e X.env b) (TP X a σ Q) X.xe s
def PW.pt{X:Cx}{e:IG}{t:TT}(h:PW X e t):PT X e t:=h _
def PA(X:Cx)(c:A0 IG)(t:TA):Prop :=
 ∀(b:Pos) (a:A0 (A3×Obj)) (s:A4) (σ:St) (H:Hp) (Q:A0 V->Hp->Prop),Inv X a σ H s->t σ H Q->wpAny (model X.prog X.w) X.A (spliced (backTo b (starEach c X.env))) (AP X a σ Q) X.xe s
def PS(X:Cx)(st:IP)(t:TS):Prop :=
 ∀(a:A0 (A3×Obj)) (s:A4) (σ:St) (H:Hp) (D:Ends),Inv X a σ H s->t D σ H->wpAny (model X.prog X.w) X.A (exec st X.env) (SP X a D) X.xe s
def QK(X:Cx)(st:A0 IP)(t:TS):Prop :=
 ∀(a:A0 (A3×Obj)) (s:A4) (σ:St) (H:Hp) (D:Ends),Inv X a σ H s->t D σ H->wpAny (model X.prog X.w) X.A (execs st X.env) (SP X a D) X.xe s
def JB{α:Type}{t:Sem α}{Q b:α->A4->Prop}{M:Model}{A:IE}{E:A2->A4->Prop}{s:A4}(h:wpAny M A t Q E s)(c:∀a s,Q a s->b a s):wpAny M A t b E s:=B_ h c λ_ _ x=>x
section
variable{X:Cx}
def V2(i:Nat):TE:=λσ H Q=>∃v,σ[i]?=some (some v)/\Q v H
def tC(v:V):TE:=λ_ H Q=>Q v H
theorem zEh{i:Nat}{x:Str}{f:Pos}(n:X.N[i]?=some x)(o:Vis X.env.scope x)(g:(x ==("__debug__":Str))=false:=by decide)(j:(x ==("__classdict__":Str))=false:=by decide):PE X (.Name x f) (V2 i):=by
 intro d s σ H Q I h;obtain⟨v,e,h⟩:=h;obtain⟨m,p,q⟩:=I.loc;obtain⟨u,r,l⟩:=q i x v n e o;have b:EP X d σ Q u s:=⟨v,H,I,r,h⟩;rcases l with⟨hk,t⟩ | ⟨hk,c,k,a⟩
 .exact wpAny_Name (wpAny_loadName_local I.ok.kind hk p t b) g
 .rcases hk with hk | hk
  .exact wpAny_Name (wpAny_loadName_cell I.ok.kind hk k a b) g
  .exact wpAny_Name (wpAny_loadName_free I.ok.kind hk k a b j) g
theorem B3{i j a}:PE X (.Constant (.int i) j a) (tC (.int i)):=λ_ _ _ H _ I h=>wpAny_Constant_int ⟨.int i,H,I.tok _,⟨_,rfl⟩,h⟩
theorem Im{b j a}:PE X (.Constant (.bool b) j a) (tC (.bl b)):=λ_ _ _ H _ I h=>Constant_bool ⟨.bl b,H,I,rfl,h⟩
theorem i6{j a}:PE X (.Constant .none j a) (tC .non):=λ_ _ _ H _ I h=>Constant_none ⟨.non,H,I,rfl,h⟩
theorem B9{x j a}:PE X (.Constant (.str x) j a) (tC (.str x)):=λ_ _ _ H _ I h=>Calls.Constant_str ⟨.str x,H,I.tok _,⟨_,rfl⟩,h⟩
def Gl(X:Cx)(x:Str):Prop:=X.env.kindOf x=some .globalImplicit
theorem Gd{E:A2->A4->Prop}{a:A0 (A3×Obj)}{s:A4}{σ:St}{H:Hp}{x:Str}{u:A2}{b:Pos}{Q:A2->A4->Prop}(I:Inv X a σ H s)(c:Gl X x)(d:X.mg x=some u)(h:Q u s)
  (e:(x ==("__debug__":Str))=false:=by decide):wpAny (model X.prog X.w) X.A (eval (.Name x b) X.env) Q E s :=
 Calls.Name_function_global I.ok.kind c (Calls.loadGlobal_global (by rw[I.ok.glob];exact I.mod.glob.keeps I.bk) d h) e
theorem An{E:A2->A4->Prop}{a:A0 (A3×Obj)}{s:A4}{σ:St}{H:Hp}{x:Str}{u:A2}{b:Pos}{Q:A2->A4->Prop}(I:Inv X a σ H s)(c:Gl X x)(d:X.mg x=none)(e:bootBuiltins x=some u)(h:Q u s)
  (f:x≠ "__name__":=by decide) (g:(x ==("__debug__":Str))=false:=by decide):wpAny (model X.prog X.w) X.A (eval (.Name x b) X.env) Q E s:=by
 obtain⟨k,i,j⟩:=I.mod.blt;exact Calls.Name_function_global I.ok.kind c (Calls.loadGlobal_builtin (by rw[I.ok.glob];exact I.mod.glob.keeps I.bk) d (by rw[I.ok.blt];exact i.keeps I.bk) ((j x f).trans e) h) g
theorem Rv{x:Str}{v:V}{u:A2}{a:Pos}(b:Gl X x)(c:X.mg x=some u)(r:RelV v u)(d:(x ==("__debug__":Str))=false:=by decide):PE X (.Name x a) (tC v) :=
 λ_ _ _ H _ I h=>Gd I b c ⟨v,H,I,r,h⟩ d
theorem zAv{x:Str}{v:V}{u:A2}{a:Pos}(b:Gl X x)(c:X.mg x=none)(d:bootBuiltins x=some u)(r:RelV v u)(e:x≠ "__name__":=by decide)(f:(x ==("__debug__":Str))=false:=by decide):PE X (.Name x a) (tC v) :=
 λ_ _ _ H _ I h=>An I b c d ⟨v,H,I,r,h⟩ e f
variable{a b:IG}{ta tb:TE}{pos:Pos}
def PC(X:Cx)(d:CmpOp)(a b:IG)(t:TE):Prop :=
 ∀(c:A0 (A3×Obj)) (s:A4) (σ:St) (H:Hp) (Q:VK),Inv X c σ H s->t σ H Q ->
  wpAny (model X.prog X.w) X.A (eval a X.env) (λv i1=>wpAny (model X.prog X.w) X.A (eval b X.env) (λu n0=>wpAny (model X.prog X.w) X.A (compareOp d v u) (EP X c σ Q) X.xe n0) X.xe i1) X.xe s
def tB(t:TE):TT:=λσ H Q=>t σ H λx a=>∃c,x = .bl c/\Q c a
theorem zDf{g:CmpOp}{t:TE}(h:PC X g a b t)(h1:behindInMarks g b=false:=by first | exact e _ (by decide) (by decide) | rfl):PT X (.Compare a [g] [b] pos) (tB t):=by
 intro f s σ H Q I i;refine wpAny_isTrue_Compare1 (JB (h f s σ H _ I i) λv o h1=>JB h1 λu p j=>JB j λc r ⟨x,k,l,m,n⟩=>?_) h1;obtain⟨d,rfl,q⟩:=n;cases m;exact C_ ⟨k,l,q⟩
theorem Q6{e:IG}{t:TE}(h:PE X e t)(c:∀a,isTrue e X.env a =(do let v <-a;standAt e.pos;holding [v] (truthy v)):=by intro _;rfl):PT X e (tB t):=by
 intro b s σ H Q I f;refine isTrue_plain (JB (h b s σ H _ I f) λv l ⟨x,g,i,j,k⟩=>?_) (c _);obtain⟨d,rfl,q⟩:=k;cases j;exact C_ ⟨g,i,q⟩
variable{tA tB':TT}{rest:A0 IG}
def zHz(t u:TT):TT:=λσ H Q=>t σ H λc a=>if c=true then u σ a Q else Q false a
def tOr(t u:TT):TT:=λσ H Q=>t σ H λc a=>if c=true then Q true a else u σ a Q
def zIn(t:TT):TT:=λσ H Q=>t σ H λc a=>Q (!c) a
theorem j4(d:PT X a tA):PW X (.BoolOp .And [a] pos) tA:=by
 intro f b s σ H Q I h;refine isTrue_and (JB (d b s σ H Q I h) λc g e=>?_);cases c with
 | true=>exact isTrue_and_nil e
 | false=>exact e
theorem X5(d:PT X a tA):PW X (.BoolOp .Or [a] pos) tA:=by
 intro f b s σ H Q I h;refine isTrue_or (JB (d b s σ H Q I h) λc g e=>?_);cases c with
 | false=>exact isTrue_or_nil e
 | true=>exact e
theorem Cf(i:PT X a tA)(j:PW X (.BoolOp .And (b::rest) pos) tB'):PW X (.BoolOp .And (a::b::rest) pos) (zHz tA tB'):=by
 intro k d s σ H Q I h;refine isTrue_and (JB (i d s σ H _ I h) λc l ⟨e,f,g⟩=>?_);cases c with
 | true=>exact j k d l σ e Q f g
 | false=>exact⟨e,f,g⟩
theorem Ck(i:PT X a tA)(j:PW X (.BoolOp .Or (b::rest) pos) tB'):PW X (.BoolOp .Or (a::b::rest) pos) (tOr tA tB'):=by
 intro k d s σ H Q I h;refine isTrue_or (JB (i d s σ H _ I h) λc l ⟨e,f,g⟩=>?_);cases c with
 | true=>exact⟨e,f,g⟩
 | false=>exact j k d l σ e Q f g
theorem V0(d:PT X a tA):PT X (.UnaryOp .Not a pos) (zIn tA):=by
 intro b s σ H Q I h;exact isTrue_not (d b s σ H (λc e=>Q (!c) e) I h)
def zGn(ta tb:TE):TE:=λσ H Q=>ta σ H λx a=>∃c,x = .bl c/\if c=true then tb σ a Q else Q (.bl false) a
def zGk(ta:TE):TE:=λσ H Q=>ta σ H λx a=>∃c,x = .bl c/\Q (.bl (!c)) a
theorem Eb{c}{t:TE}(h:PE X a t):PE X (.BoolOp c [a] pos) t:=λb s σ H Q I d=>BoolOp_one (h b s σ H Q I d)
theorem Bn(i:PE X a ta)(j:PE X (.BoolOp .And (b::rest) pos) tb):PE X (.BoolOp .And (a::b::rest) pos) (zGn ta tb):=by
 intro d s σ H Q I h;refine BoolOp_and (JB (i d s σ H _ I h) λv k ⟨x,f,g,l,e⟩=>?_);obtain⟨c,rfl,e⟩:=e;cases l;refine C_ ?_;cases c with
 | true=>exact j d k σ f Q g e
 | false=>exact⟨.bl false,f,g,rfl,e⟩
theorem zEx(e:PE X a ta):PE X (.UnaryOp .Not a pos) (zGk ta):=by
 intro b s σ H Q I h;refine UnaryOp_ (JB (e b s σ H _ I h) λv j ⟨x,f,g,i,d⟩=>?_);obtain⟨c,rfl,d⟩:=d;cases i;exact not_of (C_ ⟨.bl (!c),f,g,rfl,d⟩)
def tIf(t:TT)(ta tb:TE):TE:=λσ H Q=>t σ H λc a=>if c=true then ta σ a Q else tb σ a Q
theorem Fx{c:IG}(k:PT X c tA)(l:PE X a ta)(m:PE X b tb):PE X (.IfExp c a b pos) (tIf tA ta tb):=by
 intro e s σ H Q I h;refine wpAny_IfExp (JB (k e s σ H _ I h) λd f ⟨g,i,j⟩=>?_);cases d with
 | true=>exact l e f σ g Q i j
 | false=>exact m e f σ g Q i j
end
def II(K:VA)(H:Hp)(a:A3)(xs:A0 V):Prop :=
 Rd H a (.lst xs) \/
  ∃(o:Obj) (b:HW A2) (n:Nat),K.lookup a=some o/\o.cls = .type "list"/\o.dict=none/\o.data = .seq b n/\b.size<=sizeLine/\IJ xs b.toList
def IV(K:VA)(H:Hp)(a:A3)(xs:A0 V):Prop :=
 Rd H a (.tup xs) \/
  ∃(o:Obj) (b:HW A2) (n:Nat),K.lookup a=some o/\o.cls = .type "tuple"/\o.data = .seq b n/\b.size<=sizeLine/\IJ xs b.toList
def zIt:A2->A5 V
 | .none=>some .non
 | .bool b=>some (.bl b)
 | .int i _=>some (.int i)
 | .str x _=>some (.str x)
 | .bytes b _=>some (.byt b)
 | .float b _=>some (.flt b)
 | .ref a=>some (.ref a)
 | .type n=>some (.ty n)
 | _=>none
def RelV.abs{x:V}{u:A2}(r:RelV x u):zIt u=some x:=by
 cases x with
 | non=>cases r;rfl
 | bl _=>cases r;rfl
 | int _=>obtain⟨t,rfl⟩:=r;rfl
 | str _=>obtain⟨t,rfl⟩:=r;rfl
 | byt _=>obtain⟨t,rfl⟩:=r;rfl
 | flt _=>obtain⟨t,rfl⟩:=r;rfl
 | ref _=>cases r;rfl
 | ty _=>cases r;rfl
def RelV.inj{x y:V}{u:A2}(r:RelV x u)(q:RelV y u):x=y:=BU (r.abs.symm.trans q.abs)
def IJ.inj:∀{xs a:A0 V} {us:A0 A2},IJ xs us->IJ a us->xs=a
 | _,_,_,.nil,.nil=>rfl
 | _,_,_,.cons r t,.cons b c=>by rw[r.inj b,IJ.inj t c]
section
variable{X:Cx}{pins:A0 (A3×Obj)}{σ:St}{H:Hp}{s:A4}{a:A3}{xs ys:A0 V}
theorem II.of{K:VA}(h:H a=some (.lst xs)):II K H a xs:=.inl (.inl h)
theorem IV.of{K:VA}(h:H a=some (.tup xs)):IV K H a xs:=.inl (.inl h)
theorem Inv.list(I:Inv X pins σ H s)(h:II X.K H a xs):∃its:A0 A2,IJ xs its/\PlainL s.heap a its.toArray/\xs.length<=sizeLine:=by
 rcases h with h | ⟨o,its,n,b,c,d,f,g,r⟩
 .obtain⟨z,its,n,r,e⟩:=h.ok I.hok;exact⟨its,r,⟨_,n,e,rfl,rfl,rfl⟩,z⟩
 .refine⟨its.toList,r,⟨o,n,I.kIn a o b,c,d,by simpa using f⟩,?_⟩;have e:=r.length;simp only[AS]at e;lia
theorem Inv.tuple(I:Inv X pins σ H s)(h:IV X.K H a xs):∃its:A0 A2,IJ xs its/\IsTup s.heap a its.toArray/\xs.length<=sizeLine:=by
 rcases h with h | ⟨o,its,n,b,c,d,f,r⟩
 .obtain⟨z,its,r,p⟩:=h.ok I.hok;exact⟨its,r,p,z⟩
 .refine⟨its.toList,r,⟨o,I.kIn a o b,c,n,by simpa using d⟩,?_⟩;have e:=r.length;simp only[AS]at e;lia
theorem Inv.list_inj(I:Inv X pins σ H s)(h:II X.K H a xs)(h':II X.K H a ys):xs=ys:=by
 obtain⟨c,r,⟨o,n,e,_,_,d⟩,_⟩:=I.list h;obtain⟨b,i,⟨k,l,f,_,_,g⟩,_⟩:=I.list h';rw[e]at f;cases f;rw[d]at g;injection g with j _;have:c=b:=by simpa using congrArg Array.toList j
 subst this;exact r.inj i
theorem Inv.tuple_inj(I:Inv X pins σ H s)(h:IV X.K H a xs)(h':IV X.K H a ys):xs=ys:=by
 obtain⟨c,r,⟨o,e,_,n,d⟩,_⟩:=I.tuple h;obtain⟨b,i,⟨k,f,_,l,g⟩,_⟩:=I.tuple h';rw[e]at f;cases f;rw[d]at g;injection g with j _;have:c=b:=by simpa using congrArg Array.toList j
 subst this;exact r.inj i
end
abbrev Cx.wish(X:Cx)(E:A2->A4->Prop):Cx:={ X with xe:=E }
abbrev Cx.nox(X:Cx):Cx:=X.wish λ_ _=>False
def Cx.Ok.wish{X:Cx}(a:X.Ok)(E:A2->A4->Prop):(X.wish E).Ok :=
 ⟨a.mod,a.kind,a.glob,a.blt,a.above,a.inj,a.has,a.cab,a.hd,a.frames,a.stk,a.exf,a.bs,a.bsz,a.noex,a.exfs,a.funs,a.frf⟩
def Cx.Ok.unwish{X:Cx}{E:A2->A4->Prop}(a:(X.wish E).Ok):X.Ok :=
 ⟨a.mod,a.kind,a.glob,a.blt,a.above,a.inj,a.has,a.cab,a.hd,a.frames,a.stk,a.exf,a.bs,a.bsz,a.noex,a.exfs,a.funs,a.frf⟩
section
variable{X:Cx}{pins:A0 (A3×Obj)}{σ:St}{H:Hp}{s:A4}{E:A2->A4->Prop}
theorem Inv.wish(I:Inv X pins σ H s)(E:A2->A4->Prop):Inv (X.wish E) pins σ H s:=⟨I.ok.wish E,I.os,I.bare,I.base,I.loc,I.cell,I.free,I.freeC,I.pin,I.hok,I.len⟩
theorem Inv.unwish(I:Inv (X.wish E) pins σ H s):Inv X pins σ H s:=⟨I.ok.unwish,I.os,I.bare,I.base,I.loc,I.cell,I.free,I.freeC,I.pin,I.hok,I.len⟩
theorem SP.unwish{D:Ends}{f:Flow}{b:A4}(h:SP (X.wish E) pins D f b):SP X pins D f b:=by
 cases f with
 | next=>obtain⟨σ',a,I,q⟩:=h;exact⟨σ',a,I.unwish,q⟩
 | brk=>obtain⟨σ',a,I,q⟩:=h;exact⟨σ',a,I.unwish,q⟩
 | cont=>obtain⟨σ',a,I,q⟩:=h;exact⟨σ',a,I.unwish,q⟩
 | ret u=>obtain⟨v,σ',a,I,r,q⟩:=h;exact⟨v,σ',a,I.unwish,r,q⟩
theorem QK.nox{st:A0 IP}{t:TS}(h:QK X.nox st t):QK X st t:=λpins s σ H D I a =>
 B_ (h pins s σ H D (I.wish _) a) (λ_ _ q=>q.unwish) λ_ _ z=>VB z
end
section
variable{X:Cx}{st:IP}{rest:A0 IP}{t u:TS}{e:IG}{te:TE}{pos:Pos}
def zGa:TS:=λD σ H=>D.nx σ H
def TH(t u:TS):TS:=λD σ H=>t { D with nx:=u D } σ H
theorem D8:QK X [] zGa:=λ_ _ σ H _ I h=>EV ⟨σ,H,I,h⟩
theorem A9(h1:PS X st t)(h2:QK X rest u):QK X (st::rest) (TH t u):=by
 intro a s σ H D I h;refine HQ (JB (h1 a s σ H { D with nx:=u D } I h) λf b q=>?_);cases f with
 | next =>
  obtain⟨σ',c,d,q⟩:=q;exact h2 a b σ' c D d q
 | ret v=>exact q
 | brk=>exact q
 | cont=>exact q
theorem B5(h1:PS X st t):QK X [st] t:=by
 intro a s σ H D I h;refine HQ (JB (h1 a s σ H D I h) λf b q=>?_);cases f with
 | next=>exact EV q
 | ret v=>exact q
 | brk=>exact q
 | cont=>exact q
def zFh:TS:=λD σ H=>D.bk σ H
theorem Vs:PS X (.Break pos) zFh:=λ_ _ σ H _ I h=>wpAny_Break ⟨σ,H,I,h⟩
theorem Inv.quiet{a:A0 (A3×Obj)}{σ:St}{H:Hp}{s:A4}(I:Inv X a σ H s):interactive X.env=false:=by simp[interactive,I.ok.kind]
def zHa(te:TE):TS:=λD σ H=>te σ H λ_ a=>D.nx σ a
theorem J7(b:PE X e te)(c:swapsWith e none pos.line X.env=pure false:=by rfl):PS X (.Expr e pos) (zHa te):=by
 intro a s σ H D I h;exact wpAny_Expr_any (JB (b a s σ H _ I h) λv i ⟨x,d,f,j,g⟩=>⟨σ,d,f,g⟩) I.quiet c
def zHi(te:TE):TS:=λD σ H=>te σ H D.rt
theorem C1(b:PE X e te):PS X (.Return (some e) pos) (zHi te):=by
 intro a s σ H D I h;exact wpAny_Return_some (JB (b a s σ H _ I h) λv i ⟨x,c,d,f,g⟩=>⟨x,σ,c,d,f,g⟩)
def zHh(c:TT)(t u:TS):TS:=λD σ H=>c σ H λb a=>if b=true then t D σ a else u D σ a
theorem M0{c:IG}{a b:A0 IP}{f:TT}(l:PT X c f)(m:QK X a t)(n:QK X b u):PS X (.If c a b pos) (zHh f t u):=by
 intro e s σ H D I h;refine wpAny_If (JB (l e s σ H _ I h) λd g ⟨i,j,k⟩=>?_);cases d with
 | true=>exact m e g σ i D j k
 | false=>exact n e g σ i D j k
def zDy:TS:=λ_ _ _=>False
theorem Z8:PS X st zDy:=λ_ _ _ _ _ _ h=>h.elim
end
abbrev TG:=V->St->Hp->(St->Hp->Prop)->Prop
abbrev RF:=A0 V->St->Hp->(St->Hp->Prop)->Prop
def PG(X:Cx)(a:IG)(t:TG):Prop :=
 ∀(b:A0 (A3×Obj)) (s:A4) (σ:St) (H:Hp) (v:V) (u:A2) (Q:St->Hp->Prop),Inv X b σ H s->RelV v u->t v σ H Q ->
  wpAny (model X.prog X.w) X.A (assign a X.env u) (λ_ d=>∃σ' c,Inv X b σ' c d/\Q σ' c) X.xe s
def SQ(X:Cx)(ts:A0 IG)(t:RF):Prop :=
 ∀(a:A0 (A3×Obj)) (s:A4) (σ:St) (H:Hp) (b:A0 V) (c:A0 A2) (Q:St->Hp->Prop),Inv X a σ H s->IJ b c->t b σ H Q ->
  wpAny (model X.prog X.w) X.A (assignInOrder ((assignEach ts X.env).map (·.2)) c) (λ_ e=>∃σ' d,Inv X a σ' d e/\Q σ' d) X.xe s
abbrev NC:=V->V->V->Hp->(Hp->Prop)->Prop
def zHm(X:Cx)(t:NC):Prop :=
 ∀(a:A0 (A3×Obj)) (s:A4) (σ:St) (H:Hp) (o i v:V) (b c u:A2) (Q:Hp->Prop),Inv X a σ H s->RelV o b->RelV i c->RelV v u->t o i v H Q ->
  wpAny (model X.prog X.w) X.A (setItem b c u) (λ_ e=>∃d,Inv X a σ d e/\Q d) X.xe s
abbrev TIp:=V->V->Hp->VK->Prop
def PIp(X:Cx)(b:Operator)(t:TIp):Prop :=
 ∀(a:A0 (A3×Obj)) (s:A4) (σ:St) (H:Hp) (x y:V) (v u:A2) (Q:VK),Inv X a σ H s->RelV x v->RelV y u->t x y H Q ->
  wpAny (model X.prog X.w) X.A (inplaceOp b v u) (EP X a σ Q) X.xe s
section
variable{X:Cx}{pos:Pos}
def P2(i:Nat):TG:=λv σ H Q=>Q (σ.set i (some v)) H
theorem J0{i:Nat}{x:Str}(b:X.N.Nodup)(hi:X.N[i]?=some x)(c:Loc X.env.scope x)(d:X.fn x=true\/X.env.scope.names.lookup x=some .local:=by first | exact .inl rfl | exact .inr rfl | assumption):PG X (.Name x pos) (P2 i):=by
 intro a s σ H v u Q I r h;exact wpAny_assign_Name (V7 I b hi c r (λf e=>⟨_,H,e,h⟩) d)
def TJ:RF:=λa σ H Q=>a = []/\Q σ H
def Dk(t:TG)(u:RF):RF:=λa σ H Q=>∃v r,a=v::r/\t v σ H λσ' b=>u r σ' b Q
theorem R0:SQ X [] TJ:=by
 intro a s σ H b c Q I r h;obtain⟨e,h⟩:=h;subst e;cases r;exact assignInOrder_nil ⟨σ,H,I,h⟩
theorem E7{e:IG}{b:A0 IG}{t:TG}{u:RF}(h1:PG X e t)(h2:SQ X b u)
  (c:(assignEach (e::b) X.env).map (·.2)=assign e X.env ::(assignEach b X.env).map (·.2):=by rfl):SQ X (e::b) (Dk t u):=by
 intro a s σ H l m Q I r h;obtain⟨v,n,d,h⟩:=h;subst d;cases r with
 | cons r f =>
  rw[c];refine assignInOrder_cons (JB (h1 a s σ H _ _ _ I r h) λ_ g ⟨σ1,i,j,k⟩=>?_);exact h2 a g σ1 i _ _ Q j f k
def SV(K:VA)(n:Nat)(t:RF):TG:=λv σ H Q=>∃a b,v = .ref a/\IV K H a b/\b.length=n/\t b σ H Q
theorem zDl{d:A0 IG}{k:Nat}{t:RF}{n:Nat}(j:X.calm=true)(h:SQ X d t)
  (l:(assignEach d X.env).length=n:=by rfl) (f:(assignEach d X.env).findIdx? (·.1)=none:=by rfl):PG X (.Tuple d k pos) (SV X.K n t):=by
 intro c s σ H v u Q I r g;obtain⟨a,m,p,q,w,g⟩:=g;subst p;cases r;obtain⟨x,i,y,C⟩:=I.tuple q;refine assign_Tuple_tuple (I.ok.hd j) y (by simp[l,<-w,i.length]) f λz A=>?_;have B:Inv X c σ H { s with heap:=z }:=I.kept (t':=s.toks) λb o e=>A b o (BA (AG e)) e;exact h c _ σ H m _ Q B (by simpa using i) g
def zIe(a b:TE)(t:NC):TG:=λv σ H Q=>a σ H λo c=>b σ c λi d=>t o i v d λe=>Q σ e
theorem Lb{o i:IG}{d e:TE}{t:NC}(f:PE X o d)(hi:PE X i e)(g:zHm X t)
  (j:∀v,assign (.Subscript o i pos) X.env v =(do
   let b <-holding [v] (eval o X.env)
   let c <-holding [v,b] (eval i X.env)
   standAt pos
   holding [v,b,c] (setItem b c v)
   release [v,b,c] []):=by intro _;rfl):PG X (.Subscript o i pos) (zIe d e t):=by
 intro a s σ H v u Q I r h;rw[j];refine AA (BP (JB (f a s σ H _ I h) λb k ⟨x,l,m,n,p⟩=>?_));refine AA (BP (JB (hi a k σ l _ m p) λc q ⟨y,w,z,A,B⟩=>?_));refine AA (EZ (AA (BP (JB (g a q σ w x y v b c u _ z n A r B) λ_ F ⟨C,D,E⟩=>?_))));exact wpAny_release ⟨σ,C,D,E⟩
def SW(a:TE)(g:TG):TS:=λD σ H=>a σ H λx b=>g x σ b D.nx
theorem Cr{tg e:IG}{b:TE}{g:TG}(c:PE X e b)(d:PG X tg g)(f:swapsWithSole [tg] e pos.line X.env=pure false:=by rfl)(hw:swappedStores [tg] e X.env=pure none:=by rfl)
  (h1:(assignEach [tg] X.env).map (·.2) = [assign tg X.env]:=by rfl):PS X (.Assign [tg] e pos) (SW b g):=by
 intro a s σ H D I h;refine wpAny_Assign_stores (JB (c a s σ H _ I h) λv i ⟨x,j,k,l,m⟩=>?_) f hw;rw[h1];exact JB (d a i σ j x v _ k l m) λ_ n q=>q
theorem C6{i:Nat}{x:Str}{e:IG}{c:TE}{a:Pos}(d:X.N.Nodup)(hi:X.N[i]?=some x)(f:Loc X.env.scope x)(g:PE X e c)(j:swapsWith e (some (.Name x a)) pos.line X.env=pure false:=by rfl)(k:X.fn x=true\/X.env.scope.names.lookup x=some .local:=by first | exact .inl rfl | exact .inr rfl | assumption) :
  PS X (.Assign [.Name x a] e pos) (SW c (P2 i)):=by
 intro b s σ H D I h;refine wpAny_Assign_Name (JB (g b s σ H _ I h) λv q ⟨y,l,m,n,o⟩=>?_) j;exact V7 m d hi f n (λr p=>⟨_,l,p,o⟩) k
def zIq(i j:Nat)(a:TA):TS:=λD σ H=>a σ H λb c=>∃v w,b = [v,w]/\D.nx ((σ.set i (some v)).set j (some w)) c
theorem Yc{i j:Nat}{x y:Str}{a b:IG}{C:TA}{k l m:Pos}{n r d}(L:X.calm=true)(E:X.N.Nodup)(hi:X.N[i]?=some x)(M:X.N[j]?=some y)(t:i≠j)
  (F:X.env.scope.names.lookup x=some .local) (G:X.env.scope.names.lookup y=some .local) (O:PA X [a,b] C)
  (hw:swappedStores [.Tuple [.Name x k,.Name y l] n m] (.Tuple [a,b] r d) X.env=pure (some [x,y]))
  (P:swapsWithSole [.Tuple [.Name x k,.Name y l] n m] (.Tuple [a,b] r d) pos.line X.env=pure false:=by rfl) :
  PS X (.Assign [.Tuple [.Name x k,.Name y l] n m] (.Tuple [a,b] r d) pos) (zIq i j C):=by
 intro c s σ H D I h;rw[exec_Assign_arm];refine AA (EZ ?_);rw[P];refine AA (AD ?_);rw[AI (by decide)];refine AA (Tuple_ (JB (O _ c s σ H _ I h) λQ s1 ⟨vs,J,R,S,u⟩=>?_));obtain⟨v,w,T,u⟩:=u;subst T;obtain⟨f,g,rfl,U,z⟩:∃f g,Q = [f,g]/\RelV v f/\RelV w g:=by
  cases S with
  | cons p q =>
   cases q with
   | cons V W =>
    cases W;exact⟨_,_,rfl,p,V⟩
 refine BV ?_ (by show 2<=sizeLine;decide);have Y:Inv X c σ J { s1 with heap:=s1.heap.push { cls:=.type "tuple",data:=.seq [f,g].toArray } }:=R.kept (t':=s1.toks) λb o e=>AC _ e;rw[hw];refine AA (AD ?_);show wpAny (model X.prog X.w) X.A (do rule "assign.swapped-stores";let items <-unpackItems (.ref s1.heap.objs.size) 2 none;assignInOrder [λv=>bindName X.env y v,λv=>bindName X.env x v] items.reverse;pure Flow.next) _ _ _;refine AA (DG (AA (unpackItems_tuple (items:=#[f,g]) (I.ok.hd L) (IsTup.new s1.heap _) λh' B=>?_)));have Z:=Y.kept (h':=h') (t':=s1.toks) λb o e=>B b o (BA (AG e)) e;show wpAny _ _ (assignInOrder [λv=>bindName X.env y v,λv=>bindName X.env x v] [g,f] >>= λ_=>pure Flow.next) _ _ _;refine AA (assignInOrder_cons (wpAny_bindName (V7 Z E M (.inl G) z (λs2 I4=>?_) (.inr G))));refine assignInOrder_cons (wpAny_bindName (V7 I4 E hi (.inl F) U (λs3 K=>assignInOrder_nil (AD ?_)) (.inr F)));rw[List.set_comm _ _ (Ne.symm t)]at K;exact⟨_,J,K,u⟩
def zIu(i:Nat)(a:TE)(b:TIp):TS:=λD σ H=>∃x,σ[i]?=some (some x)/\a σ H λy c=>b x y c λz d=>D.nx (σ.set i (some z)) d
theorem zEk{i:Nat}{x:Str}{e:IG}{n:TE}{f:Operator}{o:TIp}{d:Pos}(p:X.N.Nodup)(hi:X.N[i]?=some x)(g:Loc X.env.scope x)(q:PE X e n)(t:PIp X f o)(B:X.fn x=true\/X.env.scope.names.lookup x=some .local:=by first | exact .inl rfl | exact .inr rfl | assumption) :
  PS X (.AugAssign (.Name x d) f e pos) (zIu i n o):=by
 intro a s σ H D I h;obtain⟨v,C,h⟩:=h;obtain⟨m,E,F⟩:=I.loc;have j:Vis X.env.scope x:=by rcases g with k | k;exact .inl k;exact .inr (.inl k)
 obtain⟨u,r,l⟩:=F i x v hi C j;refine wpAny_AugAssign_Name ?_;have go:wpAny (model X.prog X.w) X.A (eval e X.env) (λw n0=>wpAny (model X.prog X.w) X.A (inplaceOp f u w) (λr s₃=>wpAny (model X.prog X.w) X.A (storeName X.env x r) (λ_=>SP X a D .next) X.xe s₃) X.xe n0) X.xe s:=by
  refine JB (q a s σ H _ I h) λw G ⟨y,J,K,L,M⟩=>?_;refine JB (t a G σ J v y u w _ K r L M) λz V ⟨W,O,P,Q,R⟩=>?_;exact V7 P p hi g Q (λY S=>⟨_,O,S,R⟩) B
 rcases l with⟨hk,T⟩ | ⟨hk,c,U,b⟩
 .exact wpAny_loadName_local I.ok.kind hk E T go
 .rcases hk with hk | hk
  .exact wpAny_loadName_cell I.ok.kind hk U b go
  .rcases g with k | k
   .have:X.env.scope.names.lookup x=some .free:=hk;rw[k]at this;cases this
   .have:X.env.scope.names.lookup x=some .free:=hk;rw[k]at this;cases this
def ipI(f:Int->Int->Int):TIp:=λx y H Q=>∃i j,x = .int i/\y = .int j/\Q (.int (f i j)) H
theorem zFf:PIp X .Add (ipI λi j=>i+j):=by
 intro a s σ H x y v u Q I b c h;obtain⟨i,j,d,e,q⟩:=h;subst d;subst e;obtain⟨t,rfl⟩:=b;obtain⟨f,rfl⟩:=c;exact iadd_int ⟨.int _,H,I.tok _,⟨_,rfl⟩,q⟩
def zCc(c:TT)(f:TS):TS:=λD σ H=>∃W:Nat->St->Hp->Prop,(∃m,W m σ H)/\∀m σ H,W m σ H ->
 c σ H λb a=>if b=true then ∃N:St->Hp->Prop,(∀σ' d,N σ' d->∃e,e < m/\W e σ' d)/\f { D with nx:=N,ct:=N,bk:=D.nx } σ a else D.nx σ a
theorem Fe{c:IG}{d:A0 IP}{q:TT}{r:TS}(t:PassesOwn (model X.prog X.w) X.A X.env X.xe)(C:PT X c q)(E:QK X d r):PS X (.While c d [] pos) (zCc q r):=by
 intro a s σ H D I h;obtain⟨W,⟨F,G⟩,e⟩:=h;refine wpAny_While (codeAny_whileLoop (λn J=>∃σ' u,Inv X a σ' u J/\W n σ' u) ?_ F ⟨σ,H,I,G⟩);rintro n K ⟨σ1,x,L,M⟩;refine FF t (JB (C a K σ1 x _ L (e n σ1 x M)) λb O ⟨y,z,i⟩=>?_);cases b with
 | true =>
  obtain⟨N,B,i⟩:=i;rw[AN rfl];refine FF t (JB (E a O σ1 y _ z i) λf P j=>?_);cases f with
  | next =>
   obtain⟨σ3,g,k,l⟩:=j;obtain⟨m,o,p⟩:=B σ3 g l;exact⟨m,o,σ3,g,k,p⟩
  | cont =>
   obtain⟨σ3,g,k,l⟩:=j;obtain⟨m,o,p⟩:=B σ3 g l;exact⟨m,o,σ3,g,k,p⟩
  | brk=>exact j
  | ret v=>exact j
 | false =>
  rw[AI BE];exact EV ⟨σ1,y,z,i⟩
end
set_option genInjectivity false in
structure It where
 go:Nat->Hp->Prop
 yld:Nat->Hp->V->Hp->Prop
 stop:Nat->Hp->Prop
def Dz(X:Cx)(a:A0 (A3×Obj))(H:Hp)(b:A3):Prop :=
 H b=none/\b≠X.env.locals/\b∉X.fs/\(b∈X.ex\/X.s₀.heap.objs.size<=b)/\(∀x c,X.env.cells.lookup x=some c->c≠b)/\∀p∈X.pn++a,p.1≠b
def Inv.fpOk{X:Cx}{a:A0 (A3×Obj)}{σ:St}{H H':Hp}{s:A4}{b:A3}(I:Inv X a σ H s)(d:s.heap.objs.size<=b)(f:H' b=none):Dz X a H' b:=by
 refine⟨f,GT (BI I.lt d),I.nofs d,.inr (VE I.sz d),λx c e z=>?_,λp g z=>?_⟩
 .obtain⟨v,q⟩:=I.cell x c e;exact absurd (BI q.lt (by rw[z];exact d)) (DA _)
 .exact absurd (BI (AG (I.pin p g).1) (by rw[z];exact d)) (DA _)
structure MQ(P:HX)(w:HZ)(K:VA)(tg:IG)(J:It)(fp:A0 A3)(it:A3)(tn:Nat->IC->Prop):Prop where
 mem:it∈fp
 obj:∀i h,tn i h->∀b∈fp,∃o,h.get? b=some o/\∀v,o.data≠ .cell v
 keep:∀i h h',tn i h->(∀b∈fp,∀o,h.get? b=some o->h'.get? b=some o)->tn i h'
 item:∀(X:Cx),X.prog=P->X.w=w->X.K=K->X.calm=true->∀(i:Nat) (pins:A0 (A3×Obj)) (s:A4) (σ:St) (H:Hp) (E:A2->A4->Prop),Inv X pins σ H s->(∀b∈fp,Dz X pins H b)->tn i s.heap->J.go i H ->
  wpAny (model P w) X.A (pyNext (.ref it)) (λr s1=>∃u,r=some u /\
   wpAny (model P w) X.A (letOwnedTupleGo tg (.ref it) u) (λ_ s2=>∃x H',Inv X pins σ H' s2/\RelV x u/\J.yld i H x H'/\tn (i+1) s2.heap/\∀b∈fp,H' b=none) E s1) E s
 done:∀(X:Cx),X.prog=P->X.w=w->X.K=K->X.calm=true->∀(i:Nat) (pins:A0 (A3×Obj)) (s:A4) (σ:St) (H:Hp) (E:A2->A4->Prop),Inv X pins σ H s->(∀b∈fp,Dz X pins H b)->tn i s.heap->J.stop i H ->
  wpAny (model P w) X.A (pyNext (.ref it)) (λr s1=>r=none/\Inv X pins σ H s1) E s
 self:∀(A:IE) (i:Nat) (s:A4) (Q:A2->A4->Prop) (E:A2->A4->Prop),tn i s.heap->Q (.ref it) s->wpAny (model P w) A (pyIter (.ref it)) Q E s
abbrev TI:=St->Hp->(It->Hp->Prop)->Prop
def PIE(X:Cx)(a:A0 (A3×Obj))(σ:St)(tg:IG)(R:It->Hp->Prop)(c:A2)(e:A4):Prop :=
 ∃(f:A3) (g:A0 A3) (tn:Nat->IC->Prop) (J:It) (d:Hp),c = .ref f/\Inv X a σ d e/\MQ X.prog X.w X.K tg J g f tn/\tn 0 e.heap/\(∀b∈g,Dz X a d b)/\R J d
def PI(X:Cx)(tg iter:IG)(b:TI):Prop :=
 ∀(a:A0 (A3×Obj)) (s:A4) (σ:St) (H:Hp) (R:It->Hp->Prop),Inv X a σ H s->b σ H R ->
  wpAny (model X.prog X.w) X.A (eval iter X.env) (λv c=>wpAny (model X.prog X.w) X.A (pyIter v) (PIE X a σ tg R) X.xe c) X.xe s
def Vw{M:Model}{A:IE}{E:A2->A4->Prop}{s:A4}{tg:IG}{b:A3}{u:A2}{o:Obj}{n:String}{vs:HW A2}{Q:Unit->A4->Prop}(c:s.heap.get? b=some o)(d:o.cls = .type n)(e:o.data = .fields vs)
    (f:["enumerate","zip","dict_itemiterator","dict_reverseitemiterator","odict_iterator","itertools.zip_longest","itertools.pairwise"].contains n=false) (a:Q () s):wpAny M A (letOwnedTupleGo tg (.ref b) u) Q E s:=by
  unfold letOwnedTupleGo;cases tg<;>first
    | exact AD a
    | (cases u<;>first
        | exact AD a
        | (refine AA (wpAny_load c ?_)
           rw[d,e];show wpAny M A (if(["enumerate","zip","dict_itemiterator","dict_reverseitemiterator","odict_iterator","itertools.zip_longest","itertools.pairwise"].contains n&&vs[0]? == some (rawInt _))=true then _ else _) Q E s;rw[AI (by intro h;rw[f,DP]at h;cases h)];exact AD a))
def QF(K:VA)(a:A3):It :=
 ⟨λi H=>∃b x,II K H a b/\b[i]?=some x,λi H x c=>c=H/\∀b,II K H a b->b[i]?=some x,λi H=>∃b,II K H a b/\b.length<=i⟩
def Itt(K:VA)(a:A3):It :=
 ⟨λi H=>∃b x,IV K H a b/\b[i]?=some x,λi H x c=>c=H/\∀b,IV K H a b->b[i]?=some x,λi H=>∃b,IV K H a b/\b.length<=i⟩
def QT(lo:Int)(n:Nat):It:=⟨λi _=>i<n,λi H x a=>a=H/\x = .int (lo+i),λi _=>n<=i⟩
def Qt{P:HX}{w:HZ}{K:VA}{tg:IG}(a g:A3):MQ P w K tg (QF K a) [g] g (λi h=>h.IsListIter g a i) where
 mem:=by simp
 obj:=λi h st b j=>by
  have e:b=g:=by simpa using j
  subst e;obtain⟨o,e,c,d⟩:=st;exact⟨o,e,λv z=>by rw[d]at z;cases z⟩
 keep:=λi h m st k=>st.at λo e=>k g (by simp) o e
 item:=by
  intro X r t y N i f s σ H E I n st A;subst r t y;obtain⟨O,x,q,B⟩:=A;obtain⟨C,D,p,Q⟩:=I.list q;obtain⟨u,R,S⟩:=D.get B;obtain⟨F,G,T,J,L,M⟩:=n g (by simp);refine wpAny_pyNext_list_item st p.isList (x:=u) (by simpa using R) λm l U=>?_;have V:Inv X f σ H { s with heap:=m }:=I.turned (t':=s.toks) (λb o j e=>(U.2 b j).trans e) F G J L M;obtain⟨o,e,c,d⟩:=id l;exact⟨u,rfl,Vw (s:={ s with heap:=m }) e c d (by decide) ⟨x,H,V,S,⟨rfl,λys Y=>by rw[I.list_inj Y q];exact B⟩,l,λb j=>(n b j).1⟩⟩
 done:=by
  intro X r t y N i f s σ H E I n st A;subst r t y;obtain⟨O,q,B⟩:=A;obtain⟨C,D,p,Q⟩:=I.list q;obtain⟨F,G,T,J,L,M⟩:=n g (by simp);have hl:=D.length;exact wpAny_pyNext_list_end (I.ok.hd N) st p.isList (by simp;lia) λm Z=>⟨rfl,I.turned (t':=s.toks) (λb o j e=>Z b o j e) F G J L M⟩
 self:=λ_ _ _ _ _ st h=>wpAny_pyIter_listiter st h
def Nk{P:HX}{w:HZ}{K:VA}{tg:IG}(a g:A3):MQ P w K tg (Itt K a) [g] g (λi h=>h.IsTupleIter g a i) where
 mem:=by simp
 obj:=λi h st b j=>by
  have e:b=g:=by simpa using j
  subst e;obtain⟨o,e,c,d⟩:=st;exact⟨o,e,λv z=>by rw[d]at z;cases z⟩
 keep:=λi h n st k=>st.at λo e=>k g (by simp) o e
 item:=by
  intro X t y A N i f s σ H E I q st B;subst t y A;obtain⟨O,x,r,C⟩:=B;obtain⟨l,D,p,Q⟩:=I.tuple r;obtain⟨u,R,S⟩:=D.get C;obtain⟨F,G,T,J,L,M⟩:=q g (by simp);refine wpAny_pyNext_tuple_item st (show s.heap.IsTuple a l.toArray from p) (x:=u) (by simpa using R) λn m U=>?_;have V:Inv X f σ H { s with heap:=n }:=I.turned (t':=s.toks) (λb o j e=>(U.2 b j).trans e) F G J L M;obtain⟨o,e,c,d⟩:=id m;exact⟨u,rfl,Vw (s:={ s with heap:=n }) e c d (by decide) ⟨x,H,V,S,⟨rfl,λys Y=>by rw[I.tuple_inj Y r];exact C⟩,m,λb j=>(q b j).1⟩⟩
 done:=by
  intro X t y A N i f s σ H E I q st B;subst t y A;obtain⟨O,r,C⟩:=B;obtain⟨l,D,p,Q⟩:=I.tuple r;obtain⟨F,G,T,J,L,M⟩:=q g (by simp);have hl:=D.length;exact wpAny_pyNext_tuple_end (I.ok.hd N) st (show s.heap.IsTuple a l.toArray from p) (by simp;lia) λn Z=>⟨rfl,I.turned (t':=s.toks) (λb o j e=>Z b o j e) F G J L M⟩
 self:=λ_ _ _ _ _ st h=>wpAny_pyIter_tupleiter st h
def Of{P:HX}{w:HZ}{K:VA}{tg:IG}(a:A3)(lo:Int)(n:Nat):MQ P w K tg (QT lo n) [a] a (λi h=>IsRangeIter h a (lo +(i:Nat)*1) ((n:Int)-(i:Nat)) 1) where
 mem:=by simp
 obj:=λi h st b d=>by
  have e:b=a:=by simpa using d
  subst e;exact⟨_,st,λv z=>by
   have D:Data.fields _=Data.cell v:=z;cases D⟩
 keep:=λi h g st k=>k a (by simp) _ st
 item:=by
  intro X l m p q i c s σ H E I j st r;subst l m p;obtain⟨u,x,F,y,A,B⟩:=j a (by simp);have W:=Walks.range (prog:=X.prog) (w:=X.w) (I.ok.hd q) a lo 1 n;refine W.item i s _ _ r st λv g C G f kk=>?_;obtain⟨t,rfl⟩:=G;have J:Inv X c σ H { s with heap:=g,toks:=C }:=I.turned (λb o d e=>kk b o (by simpa using d) e) u x y A B;refine⟨_,rfl,Vw (s:={ s with heap:=g,toks:=C }) (n := "range_iterator") f rfl rfl (by decide) ⟨.int (lo+i),H,J,⟨t,?_⟩,⟨rfl,rfl⟩,f,λb d=>(j b d).1⟩⟩;rw[Int.mul_one]
 done:=by
  intro X l m p q i c s σ H E I j st r;subst l m p;obtain⟨u,x,F,y,A,B⟩:=j a (by simp);exact wpAny_pyNext_range_end (I.ok.hd q) st (by have:n<=i:=r;lia) λg L=>⟨rfl,I.turned (t':=s.toks) (λb o d e=>L b o d e) u x y A B⟩
 self:=λ_ _ _ _ _ st h=>wpAny_pyIter_rangeiter st h
section
variable{X:Cx}{tg:IG}
def zEw(K:VA)(tl:TE):TI:=λσ H R=>tl σ H λx b=>∃a,x = .ref a/\(∃c,II K b a c)/\R (QF K a) b
def zFs(K:VA)(tl:TE):TI:=λσ H R=>tl σ H λx b=>∃a,x = .ref a/\(∃c,IV K b a c)/\R (Itt K a) b
theorem Zn{l:IG}{tl:TE}(g:PE X l tl):PI X tg l (zEw X.K tl):=by
 intro c s σ H R I h;refine JB (g c s σ H _ I h) λv d ⟨x,i,f,j,k⟩=>?_;obtain⟨a,e,⟨t,m⟩,q⟩:=k;subst e;cases j;obtain⟨n,u,p,w⟩:=f.list m;refine FJ p.isList ?_;refine⟨d.heap.objs.size,[d.heap.objs.size],_,_,i,rfl,f.kept (t':=d.toks) λb o e=>AC _ e,Qt a _,⟨_,AW _ rfl,rfl,rfl⟩,λb r=>?_,q⟩;have e:b=d.heap.objs.size:=by simpa using r
 subst e;exact f.fpOk (VD _) (f.hok.fresh (VD _))
theorem zCl{l:IG}{tl:TE}(i:PE X l tl):PI X tg l (zFs X.K tl):=by
 intro c s σ H R I h;refine JB (i c s σ H _ I h) λv d ⟨x,j,f,k,m⟩=>?_;obtain⟨a,e,⟨t,n⟩,q⟩:=m;subst e;cases k;obtain⟨g,u,p,w⟩:=f.tuple n;refine FX (show d.heap.IsTuple a g.toArray from p) ?_;refine⟨d.heap.objs.size,[d.heap.objs.size],_,_,j,rfl,f.kept (t':=d.toks) λb o e=>AC _ e,Nk a _,⟨_,AW _ rfl,rfl,rfl⟩,λb r=>?_,q⟩;have e:b=d.heap.objs.size:=by simpa using r
 subst e;exact f.fpOk (VD _) (f.hok.fresh (VD _))
theorem Mo{a:A0 (A3×Obj)}{σ:St}{H:Hp}{s:A4}{R:It->Hp->Prop}{E:A2->A4->Prop}{lo hi:Int}{t u v:Tok}{c:Nat}(I:Inv X a σ H s)(h1:-(2^62)<=lo)(h2:lo<2^62)(f:-(2^62)<=hi)(g:hi<2^62)
  (q:R (QT lo (hi-lo).toNat) H):wpAny (model X.prog X.w) X.A (pyIter (.ref s.heap.objs.size)) (PIE X a σ tg R) E { s with heap:=s.heap.push { cls:=.type "range",data:=.fields #[.int lo t,.int hi u,.int 1 v] },toks:=c }:=by
 refine wpAny_pyIter_range (IsRange.new ..) (small_one h1 h2 f g) ?_;have d:Inv X a σ H { s with heap:=s.heap.push { cls:=.type "range",data:=.fields #[.int lo t,.int hi u,.int 1 v] },toks:=c }:=I.kept λb o e=>AC _ e;refine⟨(s.heap.push { cls:=.type "range",data:=.fields #[.int lo t,.int hi u,.int 1 v] }).objs.size,[(s.heap.push { cls:=.type "range",data:=.fields #[.int lo t,.int hi u,.int 1 v] }).objs.size],_,_,H,rfl,
  d.kept (t':=c) λb o e=>AC _ e,Of _ lo (hi-lo).toNat,?_,λb h=>?_,q⟩
 .have i:lo +((0:Nat):Int)*1=lo:=by simp
  have j:(((hi-lo).toNat:Nat):Int)-((0:Nat):Int)=Builtin.Range.rangeSize lo hi 1:=by rw[rangeSize_one];split<;>lia
  show IsRangeIter _ _ (lo +((0:Nat):Int)*1) ((((hi-lo).toNat:Nat):Int)-((0:Nat):Int)) 1;rw[i,j];exact AW _ rfl
 .have e:b =(s.heap.push { cls:=.type "range",data:=.fields #[.int lo t,.int hi u,.int 1 v] }).objs.size:=by simpa using h
  subst e;exact d.fpOk (VD _) (d.hok.fresh (VD _))
def zCa(a:TA):TI:=λσ H R=>a σ H λb c=>∃j:Int,b = [.int j]/\-(2^62)<=j/\j<2^62/\R (QT 0 j.toNat) c
def zGv(a:TA):TI:=λσ H R=>a σ H λb c=>∃i j:Int,b = [.int i,.int j]/\(-(2^62)<=i/\i<2^62/\-(2^62)<=j/\j<2^62)/\R (QT i (j-i).toNat) c
theorem Se{a:IG}{f:TA}{p b:Pos}(g:Gl X "range")(i:X.mg "range" = none)(k:PA X [a] f)(l:starEach [a] X.env = [(false,eval a X.env)]:=by rfl):PI X tg (.Call (.Name "range" p) [a] [] b) (zCa f):=by
 intro c s σ H R I h;refine Call_ (An I g i boot_range (VP (JB (k b c s σ H _ I h) λv w ⟨x,y,m,n,d⟩=>?_) l rfl));obtain⟨j,e,d,o,q⟩:=d;subst e;cases n with
 | cons r u =>
  cases u;obtain⟨t,rfl⟩:=r;exact call_range_1 (Mo m (by lia) (by lia) d o (by simpa using q))
theorem Rg{a b:IG}{l:TA}{p c:Pos}(m:Gl X "range")(n:X.mg "range" = none)(o:PA X [a,b] l)(u:starEach [a,b] X.env = [(false,eval a X.env),(false,eval b X.env)]:=by rfl)(d:starEach [b] X.env = [(false,eval b X.env)]:=by rfl) :
  PI X tg (.Call (.Name "range" p) [a,b] [] c) (zGv l):=by
 intro f s σ H R I h;refine Call_ (An I m n boot_range (VP (JB (o c f s σ H _ I h) λB C ⟨D,E,v,w,g⟩=>?_) (by rw[u,d]) (by rw[d];rfl)));obtain⟨i,j,e,⟨g,x,y,z⟩,q⟩:=g;subst e;cases w with
 | cons r k =>
  cases k with
  | cons A k =>
   cases k;obtain⟨t,rfl⟩:=r;obtain⟨F,rfl⟩:=A;exact call_range_2 (Mo v g x y z q)
def zIz(c:TI)(g:TG)(d:TS):TS:=λD σ H=>c σ H λJ e=>∃W:Nat->Nat->St->Hp->Prop,(∃m,W 0 m σ e)/\∀i m σ H,W i m σ H ->
 (J.stop i H/\D.nx σ H)\/(J.go i H/\∃N:St->Hp->Prop,(∀σ' a,N σ' a->∃b,b < m/\W (i+1) b σ' a)/\∀x a,J.yld i H x a->g x σ a λσ2 f=>d { D with nx:=N,ct:=N,bk:=D.nx } σ2 f)
def Ha(fp:A0 A3)(h:IC):A0 (A3×Obj):=fp.filterMap λb=>(h.get? b).map λo=>(b,o)
theorem c9{fp:A0 A3}{h:IC}{b:A3}{o:Obj}(a:b∈fp)(e:h.get? b=some o):(b,o)∈Ha fp h:=List.mem_filterMap.mpr ⟨b,a,by rw[e];rfl⟩
theorem Tu{fp:A0 A3}{h:IC}{p:A3×Obj}(a:p∈Ha fp h):p.1∈fp/\h.get? p.1=some p.2:=by
 obtain⟨b,c,e⟩:=List.mem_filterMap.mp a;cases q:h.get? b with
 | none=>rw[q]at e;cases e
 | some o =>
  rw[q]at e;have d:(b,o)=p:=BU e;subst d;exact⟨c,q⟩
theorem Inv.pinned{a:A0 (A3×Obj)}{σ:St}{H:Hp}{s:A4}{fp:A0 A3}(I:Inv X a σ H s)(g:∀b∈fp,Dz X a H b)(h:∀b∈fp,∃o,s.heap.get? b=some o/\∀v,o.data≠ .cell v):Inv X (a++Ha fp s.heap) σ H s :=
 I.pins_of λp i=>(AO.mp i).elim (λz=>I.pin p (BN _ z)) λz=>by
  obtain⟨c,e⟩:=Tu z;obtain⟨j,k,l,_⟩:=g p.1 c;obtain⟨o,f,d⟩:=h p.1 c;rw[e]at f;cases f;exact⟨e,j,k,l,d⟩
theorem Inv.unpinned{a pl:A0 (A3×Obj)}{σ:St}{H:Hp}{s:A4}(I:Inv X (a++pl) σ H s):Inv X a σ H s:=I.pins_of λp b=>I.pin p (BN _ (CQ _ b))
theorem U4{iter:IG}{q:A0 IP}{S:TI}{g:TG}{U:TS}{L:Pos}(z:PassesOwn (model X.prog X.w) X.A X.env X.xe)(V:X.calm=true)(hi:PI X tg iter S)(hg:PG X tg g)(c:QK X q U)
  (hs:∀x,foldedSetIterable iter X.env x=pure x:=by intro _;rfl):PS X (.For tg iter q [] L) (zIz S g U):=by
 intro a s σ H D I h;refine wpAny_For (JB (hi a s σ H _ I h) λv s1 h1=>JB h1 λitv s2 h2=>?_) hs;obtain⟨it,B,tn,J,H2,e,I2,T,M,Y,W,⟨m0,w0⟩,C⟩:=h2;subst e;have j:∀{p:Hp},(∀b∈B,p b=none)->∀b∈B,Dz X a p b:=λhn b c=>⟨hn b c,(Y b c).2⟩;refine codeAny_forLoop_any (λn Z=>∃i σ' p,Inv X a σ' p Z/\tn i Z.heap/\(∀b∈B,p b=none)/\W i n σ' p) ?_ m0 ⟨0,σ,H2,I2,M,λb c=>(Y b c).1,w0⟩;rintro n s3 ⟨i,σ3,K,I3,E,F,w3⟩;rcases C i n σ3 K w3 with⟨stop,qn⟩ | ⟨go,N,hN,step⟩
 .refine FF z (JB (T.done X rfl rfl rfl V i a s3 σ3 K X.xe I3 (j F) E stop) λr s4 ⟨O,I4⟩=>?_);subst O;exact EV ⟨σ3,K,I4,qn⟩
 .refine FF z (JB (T.item X rfl rfl rfl V i a s3 σ3 K X.xe I3 (j F) E go) λr s4 ⟨u,O,h4⟩=>?_);subst O;refine FF z (JB h4 λ_ s5 ⟨x,H5,I5,r5,y5,y,P⟩=>?_);have Q:=I5.pinned (j P) (T.obj _ _ y);refine FF z (JB (hg _ s5 σ3 H5 x u _ Q r5 (step x H5 y5)) λ_ s6 ⟨σ6,H6,I6,q6⟩=>?_);refine FF z (JB (c _ s6 σ6 H6 _ I6 q6) λf R t=>?_);have again:∀{σ7:St} {k:Hp},Inv X (a++Ha B s5.heap) σ7 k R->N σ7 k->∃m,m<n/\∃i σ' p,Inv X a σ' p R/\tn i R.heap/\(∀b∈B,p b=none)/\W i m σ' p:=fun{σ7 k} l G=>by
   obtain⟨m',hm,w7⟩:=hN σ7 k G;refine⟨m',hm,i+1,σ7,k,l.unpinned,T.keep _ _ _ y λb c o e=>(l.pin (b,o) (BN _ (BN _ (c9 c e)))).1,λb c=>?_,w7⟩;obtain⟨o,e,d⟩:=T.obj _ _ y b c;exact(l.pin (b,o) (BN _ (BN _ (c9 c e)))).2.1
  cases f with
  | next=>obtain⟨σ7,k,l,G⟩:=t;exact again l G
  | cont=>obtain⟨σ7,k,l,G⟩:=t;exact again l G
  | brk=>obtain⟨σ7,k,l,t⟩:=t;exact⟨σ7,k,l.unpinned,t⟩
  | ret v=>obtain⟨x7,σ7,k,l,r7,t⟩:=t;exact⟨x7,σ7,k,l.unpinned,r7,t⟩
end
def Ij{lo:Int}{n:Nat}{g:TG}{c:TS}{D:Ends}{σ:St}{H:Hp}(Pv:Nat->St->Hp->Prop)(f:Pv 0 σ H)
  (h:∀i σ H,i<n->Pv i σ H->g (.int (lo+i)) σ H λσ2 b=>c { D with nx:=Pv (i+1),ct:=Pv (i+1),bk:=D.nx } σ2 b) (j:∀σ H,Pv n σ H->D.nx σ H) :
  ∃W:Nat->Nat->St->Hp->Prop,(∃m,W 0 m σ H)/\∀i m σ H,W i m σ H ->
   ((QT lo n).stop i H/\D.nx σ H)\/((QT lo n).go i H/\∃N:St->Hp->Prop,(∀σ' H',N σ' H'->∃d,d < m/\W (i+1) d σ' H')/\∀x H',(QT lo n).yld i H x H'->g x σ H' λσ2 b=>c { D with nx:=N,ct:=N,bk:=D.nx } σ2 b):=by
 refine⟨λi m σ H=>m=n-i/\i<=n/\Pv i σ H,⟨n,by simp,CB _,f⟩,?_⟩;rintro i m σ H ⟨rfl,l,p⟩;by_cases a:i<n
 .refine .inr ⟨a,Pv (i+1),λσ' H' k=>⟨n-(i+1),by lia,rfl,a,k⟩,λx H' y=>?_⟩;obtain⟨e,y⟩:=y;subst e y;exact h i σ _ a p
 .have e:i=n:=by lia
  subst e;exact .inl ⟨VD _,j σ H p⟩
abbrev R2:=V->V->Hp->VK->Prop
def KM(X:Cx)(f:A2->A2->Sem A2)(r:R2):Prop :=
 ∀(a:A0 (A3×Obj)) (s:A4) (σ:St) (H:Hp) (x y:V) (v u:A2) (Q:VK),Inv X a σ H s->RelV x v->RelV y u->r x y H Q ->
  wpAny (model X.prog X.w) X.A (f v u) (EP X a σ Q) X.xe s
def UnR(X:Cx)(f:A2->Sem A2)(r:V->Hp->VK->Prop):Prop :=
 ∀(a:A0 (A3×Obj)) (s:A4) (σ:St) (H:Hp) (x:V) (v:A2) (Q:VK),Inv X a σ H s->RelV x v->r x H Q ->
  wpAny (model X.prog X.w) X.A (f v) (EP X a σ Q) X.xe s
def J8(X:Cx)(f:A2)(r:A0 V->Hp->VK->Prop):Prop :=
 ∀(a:A0 (A3×Obj)) (s:A4) (σ:St) (H:Hp) (b:A0 V) (c:A0 A2) (Q:VK),Inv X a σ H s->IJ b c->r b H Q ->
  wpAny (model X.prog X.w) X.A (call f c) (EP X a σ Q) X.xe s
def zIy(X:Cx)(r:V->Hp->(Bool->Hp->Prop)->Prop):Prop :=
 ∀(a:A0 (A3×Obj)) (s:A4) (σ:St) (H:Hp) (x:V) (v:A2) (Q:Bool->Hp->Prop),Inv X a σ H s->RelV x v->r x H Q ->
  wpAny (model X.prog X.w) X.A (truthy v) (TP X a σ Q) X.xe s
def OS(r:R2)(a b:TE):TE:=λσ H Q=>a σ H λx c=>b σ c λy d=>r x y d Q
def tUn(r:V->Hp->VK->Prop)(a:TE):TE:=λσ H Q=>a σ H λx b=>r x b Q
def rI(C:Int->Int->Prop)(g:Int->Int->V):R2:=λx y H Q=>∃i j,x = .int i/\y = .int j/\C i j/\Q (g i j) H
def RA(g:Int->Int->V):R2:=λx y H Q=>∃i j,x = .int i/\y = .int j/\Q (g i j) H
def rU(g:Int->V):V->Hp->VK->Prop:=λx H Q=>∃i,x = .int i/\Q (g i) H
section
variable{X:Cx}{a b c:IG}{ta tb tc:TE}{pos:Pos}
theorem zGd(i:PE X a ta)(j:PE X b tb){c:A0 (A3×Obj)}{s:A4}{σ:St}{H:Hp}{R:V->V->Hp->Prop}(I:Inv X c σ H s)
  (h:ta σ H λx g=>tb σ g λy d=>R x y d) {Q:A2->A4->Prop} {f:A2->A2->Sem A2}
  (k:∀v u e x y d,Inv X c σ d e->RelV x v->RelV y u->R x y d->wpAny (model X.prog X.w) X.A (f v u) Q X.xe e) :
  wpAny (model X.prog X.w) X.A (eval a X.env) (λv i1=>wpAny (model X.prog X.w) X.A (eval b X.env) (λu n0=>wpAny (model X.prog X.w) X.A (f v u) Q X.xe n0) X.xe i1) X.xe s:=by
 refine JB (i c s σ H _ I h) λv l ⟨x,g,m,n,o⟩=>?_;refine JB (j c l σ g _ m o) λu e ⟨y,d,p,q,r⟩=>?_;exact k v u e x y d p n q r
theorem E8{d:Operator}{r:R2}(e:KM X (binaryOp d) r)(f:PE X a ta)(g:PE X b tb):PE X (.BinOp a d b pos) (OS r ta tb):=by
 intro c s σ H Q I h;exact wpAny_BinOp (zGd f g I h λv u i x y j k l m q=>e c i σ j x y v u Q k l m q)
theorem zGr{c:UnaryOp}{r:V->Hp->VK->Prop}(d:UnR X (unaryOp c) r)(e:PE X a ta):PE X (.UnaryOp c a pos) (tUn r ta):=by
 intro b s σ H Q I h;exact UnaryOp_ (JB (e b s σ H _ I h) λv f ⟨x,g,i,j,k⟩=>d b f σ g x v Q i j k)
theorem TB{f:A2->A2->Sem A2}{C:Int->Int->Prop}{g:Int->Int->Int}
  (rule:∀(i j:Int) (t u:Tok) (s:A4) (Q:A2->A4->Prop) (E:A2->A4->Prop),C i j->Q (.int (g i j) s.toks) { s with toks:=s.toks+1 }->wpAny (model X.prog X.w) X.A (f (.int i t) (.int j u)) Q E s) :
  KM X f (rI C λi j=>.int (g i j)):=by
 intro a s σ H x y v u Q I b c h;obtain⟨i,j,rfl,rfl,d,q⟩:=h;obtain⟨t,rfl⟩:=b;obtain⟨e,rfl⟩:=c;exact rule i j t e s _ _ d ⟨.int (g i j),H,I.tok _,⟨_,rfl⟩,q⟩
theorem zFy{f:A2->A2->Sem A2}{g:Int->Int->Int}
  (rule:∀(i j:Int) (t u:Tok) (s:A4) (Q:A2->A4->Prop) (E:A2->A4->Prop),Q (.int (g i j) s.toks) { s with toks:=s.toks+1 }->wpAny (model X.prog X.w) X.A (f (.int i t) (.int j u)) Q E s) :
  KM X f (RA λi j=>.int (g i j)):=by
 intro a s σ H x y v u Q I b c h;obtain⟨i,j,rfl,rfl,q⟩:=h;obtain⟨t,rfl⟩:=b;obtain⟨d,rfl⟩:=c;exact rule i j t d s _ _ ⟨.int (g i j),H,I.tok _,⟨_,rfl⟩,q⟩
theorem zFm{f:A2->A2->Sem A2}{g:Int->Int->Bool}
  (rule:∀(i j:Int) (t u:Tok) (s:A4) (Q:A2->A4->Prop) (E:A2->A4->Prop),Q (.bool (g i j)) s->wpAny (model X.prog X.w) X.A (f (.int i t) (.int j u)) Q E s) :
  KM X f (RA λi j=>.bl (g i j)):=by
 intro a s σ H x y v u Q I b c h;obtain⟨i,j,rfl,rfl,q⟩:=h;obtain⟨t,rfl⟩:=b;obtain⟨d,rfl⟩:=c;exact rule i j t d s _ _ ⟨.bl (g i j),H,I,rfl,q⟩
def zIg(i j:Int):Prop:=0<j/\j<1073741824
def zHk(i j:Int):Prop:=0<=j/\j<=1000000/\i.natAbs<2^64
def SU(i j:Int):Prop:=(-(2^64)<i/\i<2^64)\/(-(2^64)<j/\j<2^64)
theorem SU.ok{i j:Int}(h:SU i j):IntMulOk i j:=by
 rcases h with⟨a,b⟩ | ⟨a,b⟩
 .exact .of_left (intBits_le_64 a b)
 .exact .of_right (intBits_le_64 a b)
theorem Nx(k:Nat):(0:Int)<=2^k:=by
 rw[two_pow_cast];exact Int.natCast_nonneg _
theorem T6:KM X (binaryOp .Add) (RA λi j=>.int (i+j)):=zFy λ_ _ _ _ _ _ _ q=>add_int q
theorem i8:KM X (binaryOp .Mult) (rI SU λi j=>.int (i*j)):=TB λ_ _ _ _ _ _ _ a q=>mul_int q a.ok
theorem Gc:KM X (binaryOp .FloorDiv) (rI zIg λi j=>.int (i / j)):=TB λi j _ _ _ _ _ a q=>by
 have b:(0:Int)<j:=a.1;have c:j<1073741824:=a.2;exact floordiv_int (by lia) (by rw[Int.fdiv_eq_ediv_of_nonneg i (by lia)];exact q) (.inl (PyProof.noPylong_small (by lia)))
theorem Dn:KM X (binaryOp .Mod) (rI (λ_ j=>0<j) λi j=>.int (i % j)):=TB λi j _ _ _ _ _ a q=>by
 have b:(0:Int)<j:=a;exact mod_int' (by lia) (by rw[Int.fmod_eq_emod_of_nonneg i (by lia)];exact q)
theorem zEm:KM X (binaryOp .Pow) (rI zHk λi j=>.int (i^j.toNat)):=TB λ_ _ _ _ _ _ _ a q=>pow_int_small a.1 a.2.1 a.2.2 q
theorem Rb:KM X (binaryOp .LShift) (rI zHk λi j=>.int (i*2^j.toNat)):=TB λ_ _ _ _ _ _ _ a q=>lshift_int_small a.1 a.2.1 a.2.2 q
theorem Qb:KM X (binaryOp .RShift) (rI (λ_ j=>0<=j) λi j=>.int (i / 2^j.toNat)):=TB λi j _ _ _ _ _ a q =>
 rshift_int a (by rw[Int.fdiv_eq_ediv_of_nonneg i (Nx _)];exact q)
theorem Mb:KM X (binaryOp .BitAnd) (RA λi j=>.int (Builtin.bitAnd i j)):=zFy λ_ _ _ _ _ _ _ q=>and_int q
theorem Xa:KM X (binaryOp .BitOr) (RA λi j=>.int (Builtin.bitOr i j)):=zFy λ_ _ _ _ _ _ _ q=>or_int q
theorem unI{f:A2->Sem A2}{g:Int->Int}
  (rule:∀(i:Int) (t:Tok) (s:A4) (Q:A2->A4->Prop) (E:A2->A4->Prop),Q (.int (g i) s.toks) { s with toks:=s.toks+1 }->wpAny (model X.prog X.w) X.A (f (.int i t)) Q E s) :
  UnR X f (rU λi=>.int (g i)):=by
 intro a s σ H x v Q I b h;obtain⟨i,rfl,q⟩:=h;obtain⟨t,rfl⟩:=b;exact rule i t s _ _ ⟨.int (g i),H,I.tok _,⟨_,rfl⟩,q⟩
theorem zFd:UnR X (unaryOp .Invert) (rU λi=>.int (Builtin.bitNot i)):=unI λ_ _ _ _ _ q=>invert_int q
end
def zGl:V->V->Bool
 | .non,.non=>true | .non,.int _=>true | .int _,.non=>true | .non,.bl _=>true | .bl _,.non=>true | .non,.str _=>true | .str _,.non=>true
 | .int _,.int _=>true | .bl _,.bl _=>true | .str _,.str _=>true | .byt _,.byt _=>true
 | .int _,.str _=>true | .str _,.int _=>true | .bl _,.str _=>true | .str _,.bl _=>true
 | _,_=>false
def rEq:R2:=λx y H Q=>zGl x y=true/\Q (.bl (decide (x=y))) H
def rNe:R2:=λx y H Q=>zGl x y=true/\Q (.bl (!decide (x=y))) H
def Pu{i j:Int}:decide (V.int i=V.int j) =(i == j):=by
 rw[GC];simp
def Xv{i j:Bool}:decide (V.bl i=V.bl j) =(i == j):=by
 rw[GC];simp
def Pm{i j:Str}:decide (V.str i=V.str j) =(i == j):=by
 rw[GC];simp
def Sl{i j:HW UInt8}:decide (V.byt i=V.byt j) =(i.toList == j.toList):=by
 rw[GC];cases i;cases j;simp
section
variable{X:Cx}{a b c:IG}{ta tb tc:TE}{pos:Pos}
theorem J1{a:A0 (A3×Obj)}{σ:St}{H:Hp}{s:A4}{Q:VK}{k b:Bool}(I:Inv X a σ H s)(q:Q (.bl k) H)(e:k=b):EP X a σ Q (.bool b) s:=by
 subst e;exact⟨.bl k,H,I,rfl,q⟩
theorem U2:KM X (compareOp .Eq) rEq:=by
 intro e s σ H x y v u Q I d a h;obtain⟨c,q⟩:=h;cases x with
 | non =>
  cases d;cases y with
  | non=>cases a;exact PySem.EqNone.eq_none_none (J1 I q (by simp))
  | bl j=>cases a;exact PySem.EqNone.eq_none_bool (J1 I q (by simp))
  | int j=>obtain⟨b,rfl⟩:=a;exact PySem.EqNone.eq_none_int (J1 I q (by simp))
  | str j=>obtain⟨b,rfl⟩:=a;exact PySem.EqNone.eq_none_str (J1 I q (by simp))
  | _=>exact absurd (show false=true from c) BE
 | bl i =>
  cases d;cases y with
  | non=>cases a;exact PySem.EqNone.eq_bool_none (J1 I q (by simp))
  | bl j=>cases a;exact eq_bool (J1 I q Xv)
  | str j=>obtain⟨b,rfl⟩:=a;exact PySem.EqMixed.eq_bool_str (J1 I q (by simp))
  | _=>exact absurd (show false=true from c) BE
 | int i =>
  obtain⟨t,rfl⟩:=d;cases y with
  | non=>cases a;exact PySem.EqNone.eq_int_none (J1 I q (by simp))
  | int j=>obtain⟨b,rfl⟩:=a;exact eq_int (J1 I q Pu)
  | str j=>obtain⟨b,rfl⟩:=a;exact PySem.EqMixed.eq_int_str (J1 I q (by simp))
  | _=>exact absurd (show false=true from c) BE
 | str i =>
  obtain⟨t,rfl⟩:=d;cases y with
  | non=>cases a;exact PySem.EqNone.eq_str_none (J1 I q (by simp))
  | bl j=>cases a;exact PySem.EqMixed.eq_str_bool (J1 I q (by simp))
  | int j=>obtain⟨b,rfl⟩:=a;exact PySem.EqMixed.eq_str_int (J1 I q (by simp))
  | str j=>obtain⟨b,rfl⟩:=a;exact eq_str (J1 I q Pm)
  | _=>exact absurd (show false=true from c) BE
 | byt i =>
  obtain⟨t,rfl⟩:=d;cases y with
  | byt j=>obtain⟨b,rfl⟩:=a;exact PySem.W.eq_bytes (J1 I q Sl)
  | _=>exact absurd (show false=true from c) BE
 | _=>cases y<;>exact absurd (show false=true from c) BE
theorem Db:KM X (compareOp .NotEq) rNe:=by
 intro e s σ H x y v u Q I d a h;obtain⟨c,q⟩:=h;cases x with
 | non =>
  cases d;cases y with
  | non=>cases a;exact PySem.EqNone.ne_none_none (J1 I q (by simp))
  | bl j=>cases a;exact PySem.EqNone.ne_none_bool (J1 I q (by simp))
  | int j=>obtain⟨b,rfl⟩:=a;exact PySem.EqNone.ne_none_int (J1 I q (by simp))
  | str j=>obtain⟨b,rfl⟩:=a;exact PySem.EqNone.ne_none_str (J1 I q (by simp))
  | _=>exact absurd (show false=true from c) BE
 | bl i =>
  cases d;cases y with
  | non=>cases a;exact PySem.EqNone.ne_bool_none (J1 I q (by simp))
  | bl j=>cases a;exact ne_bool (J1 I q (congrArg not Xv))
  | str j=>obtain⟨b,rfl⟩:=a;exact PySem.EqMixed.ne_bool_str (J1 I q (by simp))
  | _=>exact absurd (show false=true from c) BE
 | int i =>
  obtain⟨t,rfl⟩:=d;cases y with
  | non=>cases a;exact PySem.EqNone.ne_int_none (J1 I q (by simp))
  | int j=>obtain⟨b,rfl⟩:=a;exact ne_int (J1 I q (congrArg not Pu))
  | str j=>obtain⟨b,rfl⟩:=a;exact PySem.EqMixed.ne_int_str (J1 I q (by simp))
  | _=>exact absurd (show false=true from c) BE
 | str i =>
  obtain⟨t,rfl⟩:=d;cases y with
  | non=>cases a;exact PySem.EqNone.ne_str_none (J1 I q (by simp))
  | bl j=>cases a;exact PySem.EqMixed.ne_str_bool (J1 I q (by simp))
  | int j=>obtain⟨b,rfl⟩:=a;exact PySem.EqMixed.ne_str_int (J1 I q (by simp))
  | str j=>obtain⟨b,rfl⟩:=a;exact ne_str (J1 I q (congrArg not Pm))
  | _=>exact absurd (show false=true from c) BE
 | byt i =>
  obtain⟨t,rfl⟩:=d;cases y with
  | byt j=>obtain⟨b,rfl⟩:=a;exact PySem.W.ne_bytes (J1 I q (congrArg not Sl))
  | _=>exact absurd (show false=true from c) BE
 | _=>cases y<;>exact absurd (show false=true from c) BE
theorem Nm:KM X (compareOp .Lt) (RA λi j=>.bl (decide (i<j))):=zFm λ_ _ _ _ _ _ _ q=>lt_int q
theorem Ux:KM X (compareOp .LtE) (RA λi j=>.bl (decide (i<=j))):=zFm λ_ _ _ _ _ _ _ q=>le_int q
theorem zAg:KM X (compareOp .Gt) (RA λi j=>.bl (decide (j<i))):=zFm λ_ _ _ _ _ _ _ q=>gt_int q
theorem zFp:KM X (compareOp .GtE) (RA λi j=>.bl (decide (j<=i))):=zFm λ_ _ _ _ _ _ _ q=>ge_int q
theorem Uc:KM X (compareOp .In) (λx y H Q=>∃i j,x = .str i/\y = .str j/\Q (.bl (!(Builtin.Str.occurrences j i 0 j.length 1).isEmpty)) H):=by
 intro a s σ H x y v u Q I b c h;obtain⟨i,j,rfl,rfl,q⟩:=h;obtain⟨t,rfl⟩:=b;obtain⟨d,rfl⟩:=c;exact in_str (J1 I q rfl)
theorem Sb:KM X (compareOp .Is) (λx y H Q=>y = .non/\Q (.bl (decide (x = .non))) H):=by
 intro a s σ H x y v u Q I b c h;obtain⟨rfl,q⟩:=h;cases c;refine is_none_gen (J1 I q ?_);cases x<;>first
  | (cases b;rfl)
  | (obtain⟨t,rfl⟩:=b;rfl)
theorem D0(b:IG){a:CmpOp}(h:a≠ .In:=by decide)(h2:a≠ .NotIn:=by decide):behindInMarks a b=false:=by
 have c:(a == CmpOp.In)=false:=by cases a<;>first | rfl | exact absurd rfl h
 have d:(a == CmpOp.NotIn)=false:=by cases a<;>first | rfl | exact absurd rfl h2
 cases b<;>simp[behindInMarks,c,d]
theorem R8{d:CmpOp}{r:R2}(e:KM X (compareOp d) r)(f:PE X a ta)(g:PE X b tb)(i:behindInMarks d b=false):PE X (.Compare a [d] [b] pos) (OS r ta tb):=by
 intro c s σ H Q I h;exact wpAny_Compare1 (zGd f g I h λv u j x y k l m n q=>e c j σ k x y v u Q l m n q) i
def j7(t:TE):TT:=λσ H Q=>t σ H λx a=>∃k,x = .bl k/\Q k a
theorem B8{f:CmpOp}{r:R2}(g:KM X (compareOp f) r)(i:PE X a ta)(j:PE X b tb)(l:behindInMarks f b=false):PT X (.Compare a [f] [b] pos) (j7 (OS r ta tb)):=by
 intro d s σ H Q I h;refine wpAny_isTrue_Compare1 (JB (i d s σ H _ I h) λv m ⟨x,n,o,p,q⟩=>JB (j d m σ n _ o q) λu t ⟨y,w,A,B,C⟩ =>
  JB (g d t σ w x y v u _ A p B C) λc J ⟨z,D,E,F,k,e,G⟩=>?_) l
 subst e;cases F;exact C_ ⟨D,E,G⟩
def Yl(r b:R2)(ta tb tc:TE):TE:=λσ H Q=>ta σ H λx c=>tb σ c λy d=>r x y d λz a=>∃k,z = .bl k /\
 (if k=true then tc σ a λe f=>b y e f Q else Q (.bl false) a)
theorem Xf{i g:CmpOp}{r l:R2}(q:KM X (compareOp i) r)(j:KM X (compareOp g) l)(t:PE X a ta)(w:PE X b tb)(A:PE X c tc)
  (B:lastMarks [i,g] [b,c]=false:=by with_unfolding_all rfl):PE X (.Compare a [i,g] [b,c] pos) (Yl r l ta tb tc):=by
 intro f s σ H Q I h;refine Compare_chain (JB (t f s σ H _ I h) λv C ⟨x,D,E,F,G⟩=>chain_link (JB (w f C σ D _ E G) λu J ⟨y,K,L,m,M⟩ =>
  JB (q f J σ K x y v u _ L F m M) λd N ⟨z,n,o,O,k,e,p⟩=>?_)) B
 subst e;cases O;refine C_ ?_;cases k with
 | false=>exact ite_ff ⟨.bl false,n,o,rfl,p⟩
 | true=>exact ite_tt (chain_last (JB (A f N σ n _ o p) λP R ⟨S,T,U,V,W⟩=>j f R σ T y S u P Q U m V W))
theorem Wz{i g:CmpOp}{r l:R2}(q:KM X (compareOp i) r)(j:KM X (compareOp g) l)(t:PE X a ta)(w:PE X b tb)(A:PE X c tc)
  (B:lastMarks [i,g] [b,c]=false:=by with_unfolding_all rfl):PT X (.Compare a [i,g] [b,c] pos) (j7 (Yl r l ta tb tc)):=by
 intro f s σ H Q I h;refine isTrue_chain (JB (t f s σ H _ I h) λv C ⟨x,D,E,F,G⟩=>test_link (JB (w f C σ D _ E G) λu J ⟨y,K,L,m,M⟩ =>
  JB (q f J σ K x y v u _ L F m M) λd N ⟨z,n,o,O,k,e,p⟩=>?_)) B
 subst e;cases O;refine C_ ?_;cases k with
 | false =>
  obtain⟨k',P,R⟩:=p;cases P;exact ite_ff ⟨n,o,R⟩
 | true =>
  refine ite_tt (test_last (JB (A f N σ n _ o p) λS T ⟨U,V,W,Y,Z⟩=>JB (j f T σ V y U u S _ W m Y Z) λd' s5 ⟨z2,H5,I5,r5,k2,e2,q5⟩=>?_));subst e2;cases r5;exact C_ ⟨H5,I5,q5⟩
def zGe(K:VA)(x:V)(H:Hp)(k:Bool):Prop :=
 match x with
 | .non=>k=false
 | .bl b=>k=b
 | .int i=>k =(i != 0)
 | .str y=>y.length<=sizeLine/\k =((y.length:Int) != 0)
 | .byt y=>y.size<=sizeLine/\k =((y.size:Int) != 0)
 | .ref p=>(∃a,II K H p a/\k=!a.isEmpty)\/(∃a,IV K H p a/\k=!a.isEmpty)\/∃c,H p=some (.dK c)/\k=!c.isEmpty
 | _=>False
theorem Oa{Z:Type}{kvs:A0 (Z×V)}{vs:A0 (Z×A2)}(r:KV kvs vs):(!vs.isEmpty)=!kvs.isEmpty:=by
 cases r<;>rfl
theorem Du{xs:A0 V}{its:A0 A2}(r:IJ xs its):(!its.toArray.isEmpty)=!xs.isEmpty:=by
 cases r<;>simp
theorem Cp:(sizeLine:Nat)<2^63:=by rw[sizeLine_eq];decide
theorem zBw:zIy X (λx H Q=>∃k,zGe X.K x H k/\Q k H):=by
 intro u s σ H x v Q I g h;obtain⟨k,e,q⟩:=h;have C:=Cp;have D:sizeLine=16777216:=sizeLine_eq;cases x with
 | non =>
  cases g;have a:k=false:=e;subst a;exact truthy_none ⟨H,I,q⟩
 | bl b =>
  cases g;have a:k=b:=e;subst a;exact C_ ⟨H,I,q⟩
 | int i =>
  obtain⟨t,rfl⟩:=g;have a:k =(i != 0):=e;subst a;exact PySem.P.truthy_int ⟨H,I,q⟩
 | str y =>
  obtain⟨t,rfl⟩:=g;obtain⟨A,a⟩:y.length<=sizeLine/\k =((y.length:Int) != 0):=e;subst a;exact PySem.P.truthy_str (by lia) ⟨H,I.tok _,q⟩
 | byt y =>
  obtain⟨t,rfl⟩:=g;obtain⟨A,a⟩:y.size<=sizeLine/\k =((y.size:Int) != 0):=e;subst a;exact PySem.W.truthy_bytes (by lia) ⟨H,I.tok _,q⟩
 | ref p =>
  cases g;have a:(∃f,II X.K H p f/\k=!f.isEmpty)\/(∃f,IV X.K H p f/\k=!f.isEmpty)\/∃c,H p=some (.dK c)/\k=!c.isEmpty:=e;rcases a with⟨f,j,a⟩ | ⟨f,j,a⟩ | ⟨c,j,a⟩
  .subst a;obtain⟨n,r,o,z⟩:=I.list j;have d:=r.length;exact wpAny_truthy_list o.isList (by simp only[AR];lia) ⟨H,I.tok _,by rw[Du r];exact q⟩
  .subst a;obtain⟨n,r,o,z⟩:=I.tuple j;have d:=r.length;exact truthy_tuple o (by simp only[AR];lia) ⟨H,I.tok _,by rw[Du r];exact q⟩
  .subst a;obtain⟨z,B,l,r,m⟩:c.length<=sizeLine/\(p == sysModules)=false/\∃l,KV c l/\s.heap.DictOf (C8 X.prog X.w) p l:=I.hok p _ j;have d:c.length=l.length:=Paired.length r;exact wpAny_truthy_dict B m (by lia) ⟨H,I.tok _,by rw[Oa r];exact q⟩
 | _=>exact(show False from e).elim
theorem Vm(d:PE X a ta)(e:∀b,isTrue a X.env b =(do let v <-b;standAt a.pos;holding [v] (truthy v))) :
  PT X a (λσ H Q=>ta σ H λx H'=>∃k,zGe X.K x H' k/\Q k H'):=by
 intro c s σ H Q I h;exact isTrue_plain (JB (d c s σ H _ I h) λv f ⟨x,g,i,j,l⟩=>zBw c f σ g x v Q i j l) (e _)
theorem Ab:KM X (binaryOp .Add) (λx y H Q=>∃i j,x = .str i/\y = .str j/\i.length+j.length<=sizeLine/\Q (.str (i++j)) H):=by
 intro a s σ H x y v u Q I b c h;obtain⟨i,j,rfl,rfl,d,q⟩:=h;obtain⟨t,rfl⟩:=b;obtain⟨e,rfl⟩:=c;exact add_str (λe f=>⟨.str (i++j),H,I.tok _,⟨_,rfl⟩,q⟩) d
theorem Y3{x:V}{us:A0 A2}(r:IJ [x] us):∃u,us = [u]/\RelV x u:=by
 cases r with
 | cons a b=>cases b;exact⟨_,rfl,a⟩
theorem zCy{x y:V}{us:A0 A2}(r:IJ [x,y] us):∃u a,us = [u,a]/\RelV x u/\RelV y a:=by
 cases r with
 | cons b c =>
  cases c with
  | cons d e=>cases e;exact⟨_,_,rfl,b,d⟩
theorem My:J8 X (.builtin "abs") (λxs H Q=>∃i,xs = [.int i]/\Q (.int (if i<0 then -i else i)) H):=by
 intro a s σ H xs b Q I r h;obtain⟨i,rfl,q⟩:=h;obtain⟨u,rfl,t,rfl⟩:=Y3 r;exact call_abs_int λu c=>⟨.int (if i<0 then -i else i),H,I.tok _,⟨_,rfl⟩,q⟩
theorem Si(c:X.calm=true):J8 X (.builtin "max") (λxs H Q=>∃i j,xs = [.int i,.int j]/\Q (.int (if j>i then j else i)) H):=by
 intro b s σ H xs d Q I r h;obtain⟨i,j,rfl,q⟩:=h;obtain⟨u,e,rfl,⟨t,rfl⟩,⟨f,rfl⟩⟩:=zCy r;refine max_two_ints (I.ok.hd c) λg l k=>⟨_,H,I.kept k,?_,q⟩;by_cases a:j>i
 .rw[AN a,AN a];exact⟨_,rfl⟩
 .rw[AI a,AI a];exact⟨_,rfl⟩
theorem Ri(c:X.calm=true):J8 X (.builtin "min") (λxs H Q=>∃i j,xs = [.int i,.int j]/\Q (.int (if j<i then j else i)) H):=by
 intro b s σ H xs d Q I r h;obtain⟨i,j,rfl,q⟩:=h;obtain⟨u,e,rfl,⟨t,rfl⟩,⟨f,rfl⟩⟩:=zCy r;refine min_two_ints (I.ok.hd c) λg l k=>⟨_,H,I.kept k,?_,q⟩;by_cases a:j<i
 .rw[AN a,AN a];exact⟨_,rfl⟩
 .rw[AI a,AI a];exact⟨_,rfl⟩
theorem Tv:J8 X (.type "int") (λxs H Q=>(∃i,xs = [.int i]/\Q (.int i) H)\/∃k,xs = [.bl k]/\Q (.int (if k then 1 else 0)) H):=by
 intro a s σ H xs c Q I r h;rcases h with⟨i,rfl,q⟩ | ⟨k,rfl,q⟩
 .obtain⟨u,rfl,t,rfl⟩:=Y3 r;exact call_int_int ⟨.int i,H,I,⟨_,rfl⟩,q⟩
 .obtain⟨u,rfl,b⟩:=Y3 r;cases b;exact call_int_bool ⟨.int (if k then 1 else 0),H,I.tok _,⟨_,rfl⟩,q⟩
end
structure QL(h:IC)(x dx C:A3)(mA:Str->A5 A2):Prop where
 obj:h.get? x=some (PySem.W.instObj C dx)
 ns:h.Ns1 dx mA
 ne:dx≠x
def Sy{h:IC}{c:A3}{d:Str->A5 A2}(n:h.Ns1 c d):∃f,h.get? c=some f/\∀name,PySem.W.lookIn name f=some (d name):=by
 obtain⟨o,g,r,i,j,k,_,l⟩:=n;refine⟨o,i,λname=>?_⟩;have e:=l name;unfold nsFind findBy at e;rw[<-Array.find?_toList]at e;unfold PySem.W.lookIn;rw[j];dsimp only;split
 .rename_i y q;rw[q]at e;exact congrArg some e
 .rename_i q;rw[q]at e;have a:g.toList.any (·.refKey)=false:=by
   rw[List.any_eq_false];intro y m;obtain⟨z,t,b⟩:=k y (Array.mem_toList_iff.mp m);simp[DictEntry.refKey,b]
  have p:¬g.toList.any (·.refKey)=true:=by rw[a];exact BE
  rw[AI p];exact congrArg some e
def QL.look{h:IC}{x b C:A3}{c:Str->A5 A2}(I:QL h x b C c):∃a,PySem.W.InstAt h x (PySem.W.instObj C b) C (some a)/\∀name,PySem.W.lookIn name a=some (c name) :=
 let⟨a,d,e⟩:=Sy I.ns
 ⟨a,⟨I.obj,rfl,rfl,d⟩,e⟩
section
variable{prog:HX}{w:HZ}{A:IE}{E:A2->A4->Prop}{s:A4}{K:VA}{x dx C f:A3}{mA:Str->A5 A2}{name:Str}{v:A2}
theorem zBd{a:Bool}{Q:A2->A4->Prop}(X:K.In s.heap)(I:QL s.heap x dx C mA)(c:PySem.W.plainGet K C name=true)(d:PySem.W.hasDictIn K C=true)
  (e:PySem.W.findIn K (.ref C) name=some none) (f:mA name=some v) (b:PySem.W.handedIn v=true) (h:Q v { s with toks:=s.toks+1 }) :
  wpAny (model prog w) A (getAttr (.ref x) name a) Q E s:=by
 obtain⟨i,J,g⟩:=I.look;exact PySem.W.get_value X J (PySem.W.plainGet_of c).1 (PySem.W.findObj_own d e rfl (by rw[g,f])) b h
theorem Vn{pl:Sem Bool}{Q:A2×A0 A2->A4->Prop}(X:K.In s.heap)(I:QL s.heap x dx C mA)(a:PySem.W.plainGet K C name=true)
  (b:PySem.W.findIn K (.ref C) name=some (some (.ref f))) (c:PySem.W.isFn K (.ref f)=true) (d:mA name=none) (h:Q (.ref f,[.ref x]) s) :
  wpAny (model prog w) A (getMethod (.ref x) name pl) Q E s:=by
 obtain⟨e,J,g⟩:=I.look;exact PySem.W.method_fn X J (PySem.W.plainGet_of a).1 (PySem.W.plainGet_of a).2 b (beq_iff_eq.mp c) (by show(PySem.W.lookIn name e).map (·.isSome)=some false;rw[g,d];rfl) h
theorem Zt{ns:A0 Str}{Q:Unit->A4->Prop}(X:K.In s.heap)(I:QL s.heap x dx C mA)
  (j:PySem.W.findIn K (.ref C) "__setattr__" = some (some (.builtin "object.__setattr__"))) (k:PySem.W.plainOver K C=true) (l:PySem.W.takerIn K C name=some none) (m:PySem.W.hasDictIn K C=true)
  (hw:PySem.Within mA ns) (hsz:ns.length<=sizeLine)
  (h:∀h',QL h' x dx C (λy=>if y=name then some v else mA y)->Heap.SameBut dx s.heap h'->Q () { s with heap:=h',toks:=s.toks+2 }) :
  wpAny (model prog w) A (setAttr (.ref x) name v) Q E s:=by
 obtain⟨t,J,u⟩:=I.look;refine PySem.W.set_plain X J j (PySem.W.osa_open (s:={ s with toks:=s.toks+1 }) (r:=none) X J k l λb=>?_);obtain⟨z,n,e⟩:=PySem.W.any_some m;have o:s.heap.get? x=some ⟨.ref C,some dx,.plain,#[]⟩:=I.obj;refine AA (AD (AA (AA (wpAny_loadPart o (AA (PySem.W.Looks.here (s:={ s with toks:=s.toks+1 }) (PySem.W.looks_clsIn X n) ?_))))));rw[e];refine AD (a:=some dx) (AA (AD (AA ?_)));refine wpAny_nsSet1 (s:={ s with toks:=s.toks+1 }) I.ns λh' c d=>?_;obtain⟨oD,p,q,f,g,i⟩:=c.count (PySem.Within.cons name v hw);refine AA (wpAny_lookBehind f (by rw[g];exact pastItsLine_dict (VE i (by rw[BR];lia))) ?_);exact AD (h _ ⟨(d.2 _ (Ne.symm I.ne)).trans I.obj,c,I.ne⟩ d)
theorem Ve{R:Result->A4->Prop}{vs:A0 A2}{b:A0 (Str×A2)}(X:K.In s.heap)(c:PySem.W.makesIn K C=true)
  (hi:PySem.W.findIn K (.ref C) "__init__" = some (some (.ref f))) (e:PySem.W.typeIn K (.ref f)=some (.type "function"))
  (h:codeAny (model prog w) (A.under (.builtin "type.__call__" ⟨.ref C::vs,b⟩)) (.call (.ref f) ⟨.ref (s.heap.objs.size+1)::vs,b⟩) (PySem.W.InitBack (s.heap.objs.size+1) R)
   { s with heap:=(s.heap.push PySem.W.emptyDict).push (PySem.W.instObj C s.heap.objs.size) }) :
  codeAny (model prog w) A (.call (.ref C) ⟨vs,b⟩) R s:=by
 obtain⟨i,g,d,t,os⟩:=s;exact PySem.W.make_core (PySem.W.makes_of X c) (PySem.W.looks_findIn X hi) (λa=>PySem.W.bind_fn X a e) (.inl rfl) h
end
def Q3(f:Str)(v:V):A0 (Str×V)->A0 (Str×V)
 | []=>[(f,v)]
 | (g,x)::r=>if g=f then(g,v)::r else(g,x)::Q3 f v r
def Bx(f g:Str)(v:V):∀c:A0 (Str×V),(Q3 f v c).lookup g=if g=f then some v else c.lookup g
 | []=>by
  show List.lookup g [(f,v)]=_;by_cases h:g=f
  .have a:(g == f)=true:=beq_iff_eq.mpr h;simp only[List.lookup,a,AN h]
  .have a:(g == f)=false:=beq_eq_false_iff_ne.mpr h;simp only[List.lookup,a,AI h]
 | (k,x)::r=>by
  have d:=Bx f g v r;rw[show Q3 f v ((k,x)::r) =(if k=f then(k,v)::r else(k,x)::Q3 f v r)from rfl];by_cases b:k=f
  .rw[AN b];by_cases h:g=k
   .have a:(g == k)=true:=beq_iff_eq.mpr h;simp only[List.lookup,a,AN (h.trans b)]
   .have a:(g == k)=false:=beq_eq_false_iff_ne.mpr h;simp only[List.lookup,a,AI (λe:g=f=>h (e.trans b.symm))]
  .rw[AI b];by_cases h:g=k
   .have a:(g == k)=true:=beq_iff_eq.mpr h;simp only[List.lookup,a,AI (λe:g=f=>b (h.symm.trans e))]
   .have a:(g == k)=false:=beq_eq_false_iff_ne.mpr h;simp only[List.lookup,a];exact d
def Cq(f:Str)(v:V):∀a:A0 (Str×V),f∈(Q3 f v a).map (·.1)/\∀g,g∈a.map (·.1)->g∈(Q3 f v a).map (·.1)
 | []=>⟨by simp[Q3],λg h=>by simp at h⟩
 | (k,x)::r=>by
  obtain⟨c,d⟩:=Cq f v r;rw[show Q3 f v ((k,x)::r) =(if k=f then(k,v)::r else(k,x)::Q3 f v r)from rfl];by_cases b:k=f
  .rw[AN b];subst b;exact⟨by simp,λg h=>by simpa using h⟩
  .rw[AI b];refine⟨?_,λg h=>?_⟩
   .rw[BM];exact AL _ c
   .rw[BM]at h⊢;rcases AU.mp h with e | e
    .exact AU.mpr (.inl e)
    .exact AL _ (d g e)
def Co(f:Str)(v:V):∀a:A0 (Str×V),(Q3 f v a).length<=a.length+1
 | []=>by simp[Q3]
 | (k,x)::r=>by
  have c:=Co f v r;rw[show Q3 f v ((k,x)::r) =(if k=f then(k,v)::r else(k,x)::Q3 f v r)from rfl];by_cases b:k=f
  .rw[AN b,BR,BR];lia
  .rw[AI b,BR,BR];lia
def Lr.some_of{v:V}{o:A5 A2}(r:Lr (some v) o):∃u,o=some u/\RelV v u:=by
 cases o with
 | none=>exact(show False from r).elim
 | some u=>exact⟨u,rfl,r⟩
def Lr.none_of{o:A5 A2}(r:Lr none o):o=none:=by
 cases o with
 | none=>rfl
 | some u=>exact(show False from r).elim
def Tl{v:V}{u:A2}(r:RelV v u):PySem.W.handedIn u=true:=by
 cases v with
 | non=>cases(show u=Value.none from r);rfl
 | bl b=>cases(show u=Value.bool b from r);rfl
 | int i=>obtain⟨t,e⟩:=(show ∃t,u=Value.int i t from r);cases e;rfl
 | str x=>obtain⟨t,e⟩:=(show ∃t,u=Value.str x t from r);cases e;rfl
 | byt b=>obtain⟨t,e⟩:=(show ∃t,u=Value.bytes b t from r);cases e;rfl
 | flt b=>obtain⟨t,e⟩:=(show ∃t,u=Value.float b t from r);cases e;rfl
 | ref a=>cases(show u=Value.ref a from r);rfl
 | ty n=>cases(show u=Value.type n from r);rfl
section
variable{P:HX}{w:HZ}{H H':Hp}{h h':IC}{a C dx:A3}{fs fs':A0 (Str×V)}
theorem Fp(c:M_ P w H h)(e:H a=some (.ins C dx fs)):∃b,QL h a dx C b/\(∀f,Lr (fs.lookup f) (b f))/\PySem.Within b (fs.map (·.1))/\fs.length<=1000/\H dx=some (.own a):=by
 obtain⟨d,z,g,i,b,n,r,q⟩:=(show IU P w H h a (.ins C dx fs)from c a _ e);exact⟨b,⟨i,n,g⟩,r,q,z,d⟩
end
structure QV(K:VA)(C:A3):Prop where
 pg:PySem.W.plainGet K C Str.empty=true
 hd:PySem.W.hasDictIn K C=true
 po:PySem.W.plainOver K C=true
 sa:PySem.W.findIn K (.ref C) "__setattr__" = some (some (.builtin "object.__setattr__"))
def QV.get{K:VA}{C:A3}(c:QV K C)(f:Str):PySem.W.plainGet K C f=true:=c.pg
def JK(K:VA)(C:A3)(f:Str):Prop:=PySem.W.findIn K (.ref C) f=some none
def JK.taker{K:VA}{C:A3}{f:Str}(n:JK K C f):PySem.W.takerIn K C f=some none:=by
 unfold PySem.W.takerIn;rw[show PySem.W.findIn K (.ref C) f=some none from n];rfl
structure QM(K:VA)(C:A3)(m:Str)(f:A3):Prop where
 at_:PySem.W.findIn K (.ref C) m=some (some (.ref f))
 fn:PySem.W.isFn K (.ref f)=true
 kp:PySem.W.keepIn K (.ref f)=true
section
variable{X:Cx}{pins:A0 (A3×Obj)}{σ:St}{H:Hp}{s:A4}{a C dx:A3}{fs:A0 (Str×V)}{f:Str}{v:V}{A:IE}{E:A2->A4->Prop}
theorem Ng{b:Bool}{Q:A2->A4->Prop}(I:Inv X pins σ H s)(e:H a=some (.ins C dx fs))(c:QV X.K C)(n:JK X.K C f)(l:fs.lookup f=some v)
  (h:∀u d,Inv X pins σ H d->RelV v u->Q u d):wpAny (model X.prog X.w) A (getAttr (.ref a) f b) Q E s:=by
 obtain⟨i,O,r,_,_,_⟩:=Fp I.hok e;obtain⟨u,j,g⟩:=Lr.some_of (v:=v) (o:=i f) (by rw[<-l];exact r f);exact zBd I.kIn O (c.get f) c.hd n j (Tl g) (h u _ (I.tok _) g)
theorem y9{m:Str}{g:A3}{pl:Sem Bool}{Q:A2×A0 A2->A4->Prop}(I:Inv X pins σ H s)(e:H a=some (.ins C dx fs))(c:QV X.K C)(k:QM X.K C m g)(l:fs.lookup m=none)
  (h:Q (.ref g,[.ref a]) s):wpAny (model X.prog X.w) A (getMethod (.ref a) m pl) Q E s:=by
 obtain⟨b,O,r,_,_,_⟩:=Fp I.hok e;have d:b m=none:=Lr.none_of (by rw[<-l];exact r m);exact Vn I.kIn O (c.get m) k.at_ k.fn d h
theorem Op{y:V}{u:A2}{Q:Unit->A4->Prop}(I:Inv X pins σ H s)(e:H a=some (.ins C dx fs))(c:QV X.K C)(n:JK X.K C f)(J:fs.length<1000)(m:RelV y u)
  (h:∀i,Inv X pins σ (H_ H a (.ins C dx (Q3 f y fs))) i->Q () i):wpAny (model X.prog X.w) A (setAttr (.ref a) f u) Q E s:=by
 obtain⟨j,O,r,k,_,l⟩:=Fp I.hok e;have p:(fs.map (·.1)).length<=sizeLine:=by rw[AB,sizeLine_eq];lia
 refine Zt I.kIn O c.sa c.po n.taker c.hd k p λt d v=>h _ ?_;have B:∃o,t.get? dx=some o:=let⟨o,_,_,D,_⟩:=d.ns;⟨o,D⟩;refine I.write (x:=a) (e:=dx) (by rw[e];exact VC) (.inr l) (λb q F z=>(v.2 b F).trans z) B ?_;refine⟨by rw[B7 O.ne];exact l,?_,O.ne,d.obj,_,d.ns,λg=>?_,λg G=>?_⟩
 .have:=Co f y fs;lia
 .show Lr ((Q3 f y fs).lookup g) (if g=f then some u else j g);rw[Bx];by_cases q:g=f
  .rw[AN q,AN q];exact m
  .rw[AI q,AI q];exact r g
 .by_cases q:g=f
  .rw[q];exact(Cq f y fs).1
  .refine(Cq f y fs).2 g (k g λz=>G ?_);show(if g=f then some u else j g)=none;rw[AI q];exact z
theorem Inv.made(I:Inv X pins σ H s):Inv X pins σ (H_ (H_ H s.heap.objs.size (.own (s.heap.objs.size+1))) (s.heap.objs.size+1) (.ins C s.heap.objs.size []))
  { s with heap:=(s.heap.push PySem.W.emptyDict).push (PySem.W.instObj C s.heap.objs.size) }:=by
 have c:(s.heap.push PySem.W.emptyDict).get? s.heap.objs.size=some PySem.W.emptyDict:=AW s.heap rfl;have f:((s.heap.push PySem.W.emptyDict).push (PySem.W.instObj C s.heap.objs.size)).get? (s.heap.objs.size+1)=some (PySem.W.instObj C s.heap.objs.size):=by
  have:=AW (s.heap.push PySem.W.emptyDict) (o:=PySem.W.instObj C s.heap.objs.size) rfl
  rwa [CU]at this
 have g:(s.heap.push PySem.W.emptyDict).Ns s.heap.objs.size (λ_=>none):=⟨PySem.W.emptyDict,#[],_,c,rfl,(λe h=>absurd h (by simp)),λ_=>rfl⟩;have i:=I.laid (a:=s.heap.objs.size) (o:=.own (s.heap.objs.size+1)) (h':=s.heap.push PySem.W.emptyDict) (t':=s.toks) (λb u q=>AC _ q) (VD _) ⟨_,c⟩;refine i.laid (a:=s.heap.objs.size+1) (o:=.ins C s.heap.objs.size []) (t':=s.toks) (λb u q=>AC _ q) (VF (CU _ _)) ?_;have d:s.heap.objs.size≠s.heap.objs.size+1:=BA (FA _);refine⟨by rw[B7 d,A7],CB _,d,f,λ_=>none,(Heap.Ns1.of_empty g).at λo q=>AC _ q,λ_=>VC,λy j=>absurd rfl j⟩
theorem Zw{prog:HX}{w:HZ}{a:QY}{e:IG}{f:Str}{b:Pos}{s:A4}{Q:A2->A4->Prop}(c:attributeBase e f a (eval e a)=eval e a)
  (h:wpAny (model prog w) A (eval e a) (λo i1=>wpAny (model prog w) A (getAttr o f true) Q E i1) E s):wpAny (model prog w) A (eval (.Attribute e f b) a) Q E s :=
 Attribute_any_ h (by rw[arm_eval_Attribute,c])
end
def zHu(K:VA)(d:TE)(f:Str):TE:=λσ H Q=>d σ H λx b=>∃a C e c v,x = .ref a/\b a=some (.ins C e c)/\QV K C/\JK K C f/\c.lookup f=some v/\Q v b
def zHp(K:VA)(e g:TE)(f:Str):TS:=λD σ H=>g σ H λy h=>e σ h λx c=>∃a C d b,x = .ref a/\c a=some (.ins C d b)/\QV K C/\JK K C f/\b.length<1000 /\
 D.nx σ (H_ c a (.ins C d (Q3 f y b)))
section
variable{X:Cx}{o e value:IG}{f:Str}{pos pos' tpos:Pos}{ta tv:TE}
theorem zDc(d:PE X e ta)(g:attributeBase e f X.env (eval e X.env)=eval e X.env):PE X (.Attribute e f pos) (zHu X.K ta f):=by
 intro b s σ H Q I h;refine Zw g (JB (d b s σ H _ I h) λu t ⟨x,i,j,k,a,C,w,y,v,m,o,c,n,l,q⟩=>?_);subst m;obtain rfl:u=Value.ref a:=k;exact Ng j o c n l λz A p r=>⟨v,i,p,r,q⟩
theorem zEy(d:PE X o ta)(e:PE X value tv)(g:swapsWith value (some (.Attribute o f pos')) pos.line X.env=pure false):PS X (.Assign [.Attribute o f pos'] value pos) (zHp X.K ta tv f):=by
 intro b s σ H D I h;refine plainObj_wpAny_Assign_Attribute (JB (e b s σ H _ I h) λu i ⟨y,j,k,m,q⟩=>JB (d b i σ j _ k q) λp B ⟨x,E,r,t,a,C,F,G,v,w,c,n,l,z⟩=>?_) g;subst v;obtain rfl:p=Value.ref a:=t;exact Op r w c n l m λJ A=>⟨σ,_,A,z⟩
end
section
variable{X:Cx}{pins:A0 (A3×Obj)}{σ:St}{H:Hp}{s:A4}{A:IE}{E:A2->A4->Prop}{Q:A2->A4->Prop}{c:A2}{b:Bool}
inductive MJ(K:VA)(H:Hp):V->A2->Prop where
 | non:MJ K H .non (.type "NoneType")
 | bl (x:Bool):MJ K H (.bl x) (.type "bool")
 | int (i:Int):MJ K H (.int i) (.type "int")
 | str (x:Str):MJ K H (.str x) (.type "str")
 | flt (x:UInt64):MJ K H (.flt x) (.type "float")
 | lst {a:A3} {xs:A0 V} (e:H a=some (.lst xs)):MJ K H (.ref a) (.type "list")
 | frz {a:A3} {o:Obj} {xs:A0 V} (e:H a=some (.frz o (.lst xs))):MJ K H (.ref a) (.type "list")
 | tup {a:A3} {xs:A0 V} (e:H a=some (.tup xs)):MJ K H (.ref a) (.type "tuple")
 | dK {a:A3} {kvs:A0 (IS×V)} (e:H a=some (.dK kvs)):MJ K H (.ref a) (.type "dict")
 | dT {a:A3} {kvs:A0 (A0 IS×V)} (e:H a=some (.dT kvs)):MJ K H (.ref a) (.type "dict")
 | ins {a C dx:A3} {fs:A0 (Str×V)} (e:H a=some (.ins C dx fs)) (cl:QV K C) (ha:PySem.W.findIn K (.ref C) "__class__" = some (some (.builtin "object.__class__")))
   (hn:PySem.W.specialIn K (.builtin "object.__class__") "__get__" = some (some (.builtin "getset_descriptor.__get__"))) (htk:PySem.W.takesIn K (.builtin "object.__class__")=some true)
   (hm:PySem.W.mroIn K C (.type "object")=some true):MJ K H (.ref a) (.ref C)
theorem Rn{x:V}{u t:A2}(I:Inv X pins σ H s)(d:RelV x u)(ty:MJ X.K H x t)(e:PySem.W.kitOne X.K t c=some b)(h:∀v,Q (.bool b) { s with toks:=v }) :
  wpAny (model X.prog X.w) A (call (.builtin "isinstance") [u,c]) Q E s:=by
 cases ty with
 | non=>cases(show u=Value.none from d);exact VQ PySem.W.kitx_none I.kIn VC e (λz=>nomatch z) h
 | bl y=>cases(show u=Value.bool y from d);exact VQ PySem.W.kitx_bool I.kIn VC e (λz=>nomatch z) h
 | int i=>obtain⟨t,q⟩:=(show ∃t,u=Value.int i t from d);cases q;exact VQ PySem.W.kitx_int I.kIn VC e (λz=>nomatch z) h
 | str y=>obtain⟨t,q⟩:=(show ∃t,u=Value.str y t from d);cases q;exact VQ PySem.W.kitx_str I.kIn VC e (λz=>nomatch z) h
 | flt y=>obtain⟨t,q⟩:=(show ∃t,u=Value.float y t from d);cases q;exact VQ PySem.W.kitx_float I.kIn VC e (λz=>nomatch z) h
 | @lst a k f =>
  cases(show u=Value.ref a from d);obtain⟨_,_,n,_,g⟩:=(show IU X.prog X.w H s.heap a (.lst k)from I.hok a _ f);exact VQ PySem.W.kitx_list I.kIn ⟨_,g,rfl⟩ e (λz=>nomatch z) h
 | @frz a B k f =>
  cases(show u=Value.ref a from d);obtain⟨_,_,_,n,_,g⟩:=(show IU X.prog X.w H s.heap a (.frz B (.lst k))from I.hok a _ f);exact VQ PySem.W.kitx_list I.kIn ⟨_,g,rfl⟩ e (λz=>nomatch z) h
 | @tup a k f =>
  cases(show u=Value.ref a from d);obtain⟨_,_,_,p⟩:=(show IU X.prog X.w H s.heap a (.tup k)from I.hok a _ f);obtain⟨o,g,l,_⟩:=p;exact VQ PySem.W.kitx_tuple I.kIn ⟨o,g,l⟩ e (λz=>nomatch z) h
 | @dK a j f =>
  cases(show u=Value.ref a from d);obtain⟨_,_,N,_,p⟩:=(show IU X.prog X.w H s.heap a (.dK j)from I.hok a _ f);obtain⟨o,D,F,g,l,_⟩:=p;exact VQ PySem.W.kitx_dict I.kIn ⟨o,g,l.1⟩ e (λz=>nomatch z) h
 | @dT a j f =>
  cases(show u=Value.ref a from d);obtain⟨_,_,k,_,o,D,F,g,l,_⟩:=(show IU X.prog X.w H s.heap a (.dT j)from I.hok a _ f);exact VQ PySem.W.kitx_dict I.kIn ⟨o,g,l.1⟩ e (λz=>nomatch z) h
 | @ins a C P R f r G L m M =>
  cases(show u=Value.ref a from d);obtain⟨S,O,_⟩:=Fp I.hok f;obtain⟨T,J,_⟩:=O.look;exact VQ (PySem.W.kitx_own (r.get _) r.hd G L m M) I.kIn J e (λz=>nomatch z) h
end
structure JV(k:Nat)(A:IE):Prop where
 hd:A.handled=none
 dp:A.depth+3*k+5<recursionLimit
 un:A.units+16*k+200<cLine
def JV.mono{j k:Nat}{A:IE}(r:JV k A)(h:j<=k):JV j A:=⟨r.hd,by have:=r.dp;lia,by have:=r.un;lia⟩
def JV.deeper{k:Nat}{A:IE}(r:JV (k+1) A)(a:QY):JV k (A.deeper a) :=
 ⟨r.hd,by have:=r.dp;show A.depth+1+3*k+5<_;lia,by have:=r.un;show A.units+3+16*k+200<_;lia⟩
def Ox{A:IE}{C:A3}{us:A0 A2}{a:A0 (Str×A2)}:(A.under (.builtin "type.__call__" ⟨.ref C::us,a⟩)).depth=A.depth+1:=by
 first | rfl | simp[Around.under,Code.weight,Code.isCreation,Code.isGuard,Code.isCaller,Code.frames,Code.isFrame,guardIds]
def Nh{A:IE}{C:A3}{us:A0 A2}{a:A0 (Str×A2)}:(A.under (.builtin "type.__call__" ⟨.ref C::us,a⟩)).units=A.units+1:=by
 first | rfl | simp[Around.under,Code.cUnits,Code.frames,Code.isFrame]
def JV.make{k:Nat}{A:IE}(r:JV (k+1) A)(C:A3)(us:A0 A2)(a:A0 (Str×A2)):JV k (A.under (.builtin "type.__call__" ⟨.ref C::us,a⟩)) :=
 ⟨r.hd,by have:=r.dp;rw[Ox];lia,by have:=r.un;rw[Nh];lia⟩
def JV.depth{k:Nat}{A:IE}(r:JV k A):A.depth<recursionLimit:=by have:=r.dp;lia
def JV.units{k:Nat}{A:IE}(r:JV k A):A.units+64<cLine:=by have:=r.un;lia
def Jw:TA:=λ_ H Q=>Q [] H
def V9(a:TE)(b:TA):TA:=λσ H Q=>a σ H λx c=>b σ c λd e=>Q (x::d) e
section
variable{X:Cx}{e:IG}{es:A0 IG}{te:TE}{t:TA}{pos:Pos}
theorem A8:PA X [] Jw:=λ_ _ _ _ H Q I h=>Calls.spliced_nil ⟨[],H,I,.nil,h⟩
theorem A6(b:PE X e te)(c:PA X es t)(d:starEach (e::es) X.env =(false,eval e X.env)::starEach es X.env:=by rfl):PA X (e::es) (V9 te t):=by
 intro pos a s σ H Q I h;rw[d];show wpAny _ _ (spliced ((false,eval e X.env)::backTo pos (starEach es X.env))) _ _ s;refine Calls.spliced_cons (JB (b a s σ H _ I h) λu f ⟨x,g,i,j,k⟩=>?_);exact JB (c pos a f σ g _ i k) λq r ⟨l,m,n,o,p⟩=>⟨x::l,m,n,.cons j o,p⟩
def zFo(t:TA):TE:=λσ H Q=>t σ H λa b=>a.length<=sizeLine/\∀p,b p=none->Q (.ref p) (H_ b p (.tup a))
def SY(t:TA):TE:=λσ H Q=>t σ H λa b=>a.length<=sizeLine/\∀p,b p=none->Q (.ref p) (H_ b p (.lst a))
theorem J3{g}(h:PA X es t):PE X (.Tuple es g pos) (zFo t):=by
 intro a s σ H Q I i;refine wpAny_Tuple_spliced (JB (h pos a s σ H _ I i) λj c ⟨k,d,f,r,z,q⟩=>⟨by rw[<-r.length];exact z,?_⟩);have l:d c.heap.objs.size=none:=f.hok.fresh (VD _);refine⟨.ref c.heap.objs.size,H_ d c.heap.objs.size (.tup k),f.laid (t':=c.toks) (λb u e=>AC _ e) (VD _) ?_,rfl,q _ l⟩;exact⟨z,j,r,⟨_,AW _ rfl,rfl,_,rfl⟩⟩
theorem E9(h:PA X es t):PE X (.List es pos) (SY t):=by
 intro a s σ H Q I g;refine wpAny_List_spliced (JB (h pos a s σ H _ I g) λi c ⟨j,d,f,r,z,q⟩=>⟨by rw[<-r.length];exact z,?_⟩);have k:d c.heap.objs.size=none:=f.hok.fresh (VD _);refine⟨.ref c.heap.objs.size,H_ d c.heap.objs.size (.lst j),f.laid (t':=c.toks) (λb u e=>AC _ e) (VD _) ?_,rfl,q _ k⟩;exact⟨z,i,0,r,AW _ rfl⟩
end
abbrev Sp:=A0 V->Hp->VK->XK->Prop
abbrev QZ:=A0 QY->Hp->A4->XK->A2->A4->Prop
structure QN(P:HX)(w:HZ)(K:VA)(mg:Str->A5 A2)(base:IC)(A:IE)(outer:A0 QY)(s:A4)(H:Hp):Prop where
 frames:A.frames=some outer
 mod:Mod K mg base
 bs:∀b o,base.get? b=some o->s.heap.get? b=some o/\H b=none
 bsz:base.objs.size<=s.heap.objs.size
 funs:s.heap.FunFrames base outer
 frf:∀b∈OB outer,H b=none
 hok:M_ P w H s.heap
 bare:AllBare s.gens
def CE(a:A0 QY)(P:HX)(w:HZ)(H:Hp)(s:A4)(Q:VK)(u:A2)(b:A4):Prop :=
 ∃v c,b.os=s.os/\AllBare b.gens/\Un (OB a) [] H c s.heap b.heap/\M_ P w c b.heap/\RelV v u/\Q v c
def CR(CX:QZ)(a:A0 QY)(P:HX)(w:HZ)(H:Hp)(s:A4)(Q:VK)(E:XK)(r:Result)(b:A4):Prop :=
 match r with
 | .ok (.ret u)=>CE a P w H s Q u b
 | .ok _=>False
 | .error e=>CX a H s E e b
structure IM(P:HX)(w:HZ)(K:VA)(mg:Str->A5 A2)(base:IC)(CX:QZ)(k:Nat)(f:A3)(fd:IW)(ps:A0 Str)(sp:Sp):Prop where
 len:∀vs H Q E,sp vs H Q E->vs.length=ps.length
 run:∀(A:IE) (outer:A0 QY) (s:A4) (H:Hp) (args:Args) (us:A0 A2) (vs:A0 V) (Q:VK) (E:XK),JV k A->QN P w K mg base A outer s H->BindsTo s fd args (ps.zip us)->IJ vs us->sp vs H Q E ->
  codeAny (model P w) A (.call (.ref f) args) (CR CX outer P w H s Q E) s
def QN.make{P:HX}{w:HZ}{K:VA}{c:Str->A5 A2}{b:IC}{A:IE}{a:A0 QY}{s:A4}{H:Hp}(e:QN P w K c b A a s H)(C:A3)(us:A0 A2)(d:A0 (Str×A2)) :
  QN P w K c b (A.under (.builtin "type.__call__" ⟨.ref C::us,d⟩)) a s H:=⟨by first | exact e.frames | (simpa [Around.under,Code.envs,Code.isFrame,pushEnvs] using e.frames),e.mod,e.bs,e.bsz,e.funs,e.frf,e.hok,e.bare⟩
section
variable{X:Cx}{pins:A0 (A3×Obj)}{σ:St}{H:Hp}{s s':A4}
theorem Inv.env0(I:Inv X pins σ H s):QN X.prog X.w X.K X.mg X.base X.A X.stack s H :=
 ⟨I.ok.frames,I.ok.mod,I.bs,VE I.ok.bsz I.sz,I.stack,I.stkFree,I.hok,I.bare⟩
theorem Inv.after{Q:VK}{u:A2}(I:Inv X pins σ H s)(h:CE X.stack X.prog X.w H s Q u s'):EP X pins σ Q u s':=by
 obtain⟨v,f,os,a,i,c,r,q⟩:=h;obtain⟨j,g,d,t,e⟩:=s';obtain rfl:e=s.os:=os;exact⟨v,f,I.call (h':=j) (g':=g) (d':=d) (t':=t) (ch:=[]) i c a (λb z=>absurd z (by simp)),r,q⟩
end
def Sh(sp:Sp)(a:A0 V)(E:XK)(t:TA):TE:=λσ H Q=>t σ H λb c=>sp (b++a) c Q E
def zAt(C:A3)(m:Str)(sp:Sp)(b:A0 V)(E:XK)(e:TE)(t:TA):TE:=λσ H Q=>e σ H λx c=>∃a f d,x = .ref a/\c a=some (.ins C f d)/\d.lookup m=none /\
 t σ c λg h=>sp (x ::(g++b)) h Q E
def zFr(C:A3)(sp:Sp)(b:A0 V)(E:XK)(t:TA):TE:=λσ H Q=>t σ H λd c=>∀x a,c x=none->c a=none->a≠x ->
 sp (.ref x ::(d++b)) (H_ (H_ c a (.own x)) x (.ins C a [])) (λv e=>v = .non/\Q (.ref x) e) E
def Binds(K:VA)(b:IW)(ps:A0 Str)(ds:A0 A2):Prop :=
 ∀(s:A4) (a:A0 A2),K.In s.heap->(a++ds).length=ps.length->BindsTo s b ⟨a,[]⟩ (ps.zip (a++ds))
def Binds.all{K:VA}{a:IW}{ps:A0 Str}(h:∀us:A0 A2,us.length=ps.length->bindArgs a ⟨us,[]⟩=pure (ps.zip us)):Binds K a ps []:=λs us _ b=>by
 rw[BW]at b⊢;exact .of_eq (h us b)
def Ct(CX:QZ)(X:Cx)(E:XK):Prop:=∀(a:A0 (A3×Obj)) (σ:St) (H:Hp) (s:A4) (e:A2) (b:A4),Inv X a σ H s->CX X.stack H s E e b->X.xe e b
section
variable{X:Cx}{CX:QZ}{k:Nat}{f C:A3}{fd:IW}{ps:A0 Str}{sp:Sp}{dvs:A0 V}{ds:A0 A2}{E:XK}{x m:Str}{p pos apos:Pos}{e o:IG}{es:A0 IG}{ta:TE}{t:TA}
theorem Rl{a:A0 (A3×Obj)}{σ:St}{H:Hp}{s:A4}{Q:VK}{us:A0 A2}{vs:A0 V}(F:IM X.prog X.w X.K X.mg X.base CX k f fd ps sp)(d:JV k X.A)(g:Binds X.K fd ps ds)(i:IJ dvs ds)(j:Ct CX X E)
  (I:Inv X a σ H s) (r:IJ vs us) (h:sp (vs++dvs) H Q E):wpAny (model X.prog X.w) X.A (call (.ref f) us) (EP X a σ Q) X.xe s:=by
 have c:IJ (vs++dvs) (us++ds):=r.append i;have l:(us++ds).length=ps.length:=by rw[<-c.length];exact F.len _ _ _ _ h
 refine wpAny_call (FK (F.run X.A X.stack s H ⟨us,[]⟩ (us++ds) (vs++dvs) Q E d I.env0 (g s us I.kIn l) c h) λr m b=>?_);cases r with
 | error e=>exact j a σ H s e m I b
 | ok n =>
  cases n with
  | ret u=>exact I.after b
  | next=>exact VB b
  | brk=>exact VB b
  | cont=>exact VB b
theorem zBg(F:IM X.prog X.w X.K X.mg X.base CX k f fd ps sp)(g:JV k X.A)(i:Gl X x)(j:X.mg x=some (.ref f))(l:PySem.W.keepIn X.K (.ref f)=true)(m:Binds X.K fd ps ds)(n:IJ dvs ds)(o:Ct CX X E)
  (u:PA X (e::es) t) (b:(x ==("__debug__":Str))=false:=by decide) (v:starEach (e::es) X.env =(false,eval e X.env)::starEach es X.env:=by rfl) (c:(backTo pos (starEach es X.env)).any (·.1)=false:=by rfl) :
  PE X (.Call (.Name x p) (e::es) [] pos) (Sh sp dvs E t):=by
 intro a s σ H Q I h;refine FY (Gd I i j ?_ b);refine PySem.W.callWith_K (h₀:=X.base) I.ok.mod.kin l (JB (u pos a s σ H _ I h) λy z ⟨B,C,d,r,q⟩=>⟨d.kIn,?_⟩) v c;exact Rl F g m n o d r q
theorem N0{pl:Sem Bool}(v:PE X o ta)(c:QV X.K C)(i:QM X.K C m f)(F:IM X.prog X.w X.K X.mg X.base CX k f fd ps sp)(y:JV k X.A)(z:Binds X.K fd ps ds)(B:IJ dvs ds)(D:Ct CX X E)(G:PA X (e::es) t)
  (d:starEach (e::es) X.env =(false,eval e X.env)::starEach es X.env:=by rfl) (g:(backTo pos (starEach es X.env)).any (·.1)=false:=by rfl)
  (J:eval (.Call (.Attribute o m apos) (e::es) [] pos) X.env =(do
   let j <-eval o X.env
   standAt apos.atName
   let(f,first) <-holding [j] (getMethod j m pl)
   callWith pos f first (backTo pos (starEach (e::es) X.env)) (backToKw pos (keywordEach [] X.env))):=by rfl) :
  PE X (.Call (.Attribute o m apos) (e::es) [] pos) (zAt C m sp dvs E ta t):=by
 intro b s σ H Q I h;refine PySem.W.methodCall_KW (pl:=pl) (JB (v b s σ H _ I h) λu L ⟨x,M,n,N,a,S,T,O,P,l,q⟩=>?_) J;subst O;obtain rfl:u=Value.ref a:=N;refine y9 n P c i l ?_;refine PySem.W.callWith_K (first:=[.ref a]) (h₀:=X.base) I.ok.mod.kin i.kp (JB (G pos b L σ M _ n q) λus U ⟨vs,V,p,r,R⟩=>⟨p.kIn,?_⟩) d g;exact Rl (us:=.ref a::us) (vs:=.ref a::vs) F y z B D p (.cons rfl r) R
theorem J5{pl:Sem Bool}(i:PE X o ta)(c:QV X.K C)(e:QM X.K C m f)(F:IM X.prog X.w X.K X.mg X.base CX k f fd ps sp)(j:JV k X.A)(n:Binds X.K fd ps ds)(p:IJ dvs ds)(r:Ct CX X E)
  (t:eval (.Call (.Attribute o m apos) [] [] pos) X.env =(do
   let g <-eval o X.env
   standAt apos.atName
   let(f,first) <-holding [g] (getMethod g m pl)
   callWith pos f first (backTo pos (starEach [] X.env)) (backToKw pos (keywordEach [] X.env))):=by rfl) :
  PE X (.Call (.Attribute o m apos) [] [] pos) (zAt C m sp dvs E ta Jw):=by
 intro b s σ H Q I h;refine PySem.W.methodCall_KW (pl:=pl) (JB (i b s σ H _ I h) λu B ⟨x,D,d,v,a,G,J,y,z,l,q⟩=>?_) t;subst y;obtain rfl:u=Value.ref a:=v;refine y9 d z c e l ?_;exact PySem.W.callWith_K0 (first:=[.ref a]) d.kIn e.kp (Rl (us:=[.ref a]) (vs:=[.ref a]) F j n p r d (.cons rfl .nil) q)
structure Mk(K:VA)(C f:A3):Prop where
 makes:PySem.W.makesIn K C=true
 init:PySem.W.findIn K (.ref C) "__init__" = some (some (.ref f))
 fn:PySem.W.isFn K (.ref f)=true
 kp:PySem.W.keepIn K (.ref C)=true
theorem Uz{a:A0 (A3×Obj)}{σ:St}{H:Hp}{s:A4}{Q:VK}{us:A0 A2}{vs:A0 V}(M:Mk X.K C f)(F:IM X.prog X.w X.K X.mg X.base CX k f fd ps sp)(j:JV (k+1) X.A)(l:Binds X.K fd ps ds)(m:IJ dvs ds)
  (n:Ct CX X E) (I:Inv X a σ H s) (r:IJ vs us)
  (h:∀x c,H x=none->H c=none->c≠x->sp (.ref x ::(vs++dvs)) (H_ (H_ H c (.own x)) x (.ins C c [])) (λv o=>v = .non/\Q (.ref x) o) E) :
  wpAny (model X.prog X.w) X.A (call (.ref C) us) (EP X a σ Q) X.xe s:=by
 have g:=h (s.heap.objs.size+1) s.heap.objs.size (I.hok.fresh (DM _)) (I.hok.fresh (VD _)) (BA (FA _));have d:=Inv.made (C:=C) I;have i:IJ (V.ref (s.heap.objs.size+1) ::(vs++dvs)) (Value.ref (s.heap.objs.size+1) ::(us++ds)):=.cons rfl (r.append m);have p:(Value.ref (s.heap.objs.size+1)::us++ds).length=ps.length:=by
  have e:=i.length;rw[F.len _ _ _ _ g]at e;exact e.symm
 refine wpAny_call (Ve (f:=f) I.kIn M.makes M.init (beq_iff_eq.mp M.fn) (FK (F.run _ X.stack _ _ ⟨Value.ref (s.heap.objs.size+1)::us,[]⟩ (Value.ref (s.heap.objs.size+1) ::(us++ds)) _ _ E (j.make C us [])
  (d.env0.make C us []) (l _ (Value.ref (s.heap.objs.size+1)::us) d.kIn p) i g) λr q b=>?_))
 cases r with
 | error e=>exact n a σ _ _ e q d b
 | ok t =>
  cases t with
  | ret u =>
   obtain⟨v,y,z,B,D,G⟩:=d.after b;subst D;exact⟨B,⟨V.ref (s.heap.objs.size+1),y,z,rfl,G⟩⟩
  | next=>exact VB b
  | brk=>exact VB b
  | cont=>exact VB b
theorem j8(M:Mk X.K C f)(F:IM X.prog X.w X.K X.mg X.base CX k f fd ps sp)(g:JV (k+1) X.A)(i:Gl X x)(j:X.mg x=some (.ref C))(l:Binds X.K fd ps ds)(m:IJ dvs ds)(n:Ct CX X E)
  (o:PA X (e::es) t) (b:(x ==("__debug__":Str))=false:=by decide) (u:starEach (e::es) X.env =(false,eval e X.env)::starEach es X.env:=by rfl) (c:(backTo pos (starEach es X.env)).any (·.1)=false:=by rfl) :
  PE X (.Call (.Name x p) (e::es) [] pos) (zFr C sp dvs E t):=by
 intro a s σ H Q I h;refine FY (Gd I i j ?_ b);refine PySem.W.callWith_K (h₀:=X.base) I.ok.mod.kin M.kp (JB (o pos a s σ H _ I h) λv y ⟨z,B,d,r,q⟩=>⟨d.kIn,?_⟩) u c;exact Uz M F g l m n d r q
end
structure IB(N P:A0 Str)(sc:KR):Prop where
 kind:sc.kind = .function
 co:sc.isCoroutine=false
 gen:sc.isGenerator=false
 nd:N.Nodup
 pre:N.take P.length=P
 par:∀x∈P,sc.names.lookup x=some .local\/sc.names.lookup x=some .cell
 nofree:∀y∈sc.names,y.2≠ .free
def Hs{kindOf:Str->A5 OC}{x:Str}:∀{a:A0 (Str×A2)} {m:Str->A5 A2},(∀v,(x,v)∉a)->bindL kindOf a m x=m x
 | [],_,_=>rfl
 | (n,v)::r,m,h=>by
  unfold bindL;rw[Hs λw b=>h w (AL _ b)];split
  .have:x≠n:=by rintro rfl;exact h v AX
   simp[this]
  .rfl
def Hi{kindOf:Str->A5 OC}{x:Str}:∀{a:A0 (Str×A2)} {m:Str->A5 A2},(∀v,(x,v)∉a)->bindC kindOf a m x=m x
 | [],_,_=>rfl
 | (n,v)::r,m,h=>by
  unfold bindC;rw[Hi λw b=>h w (AL _ b)];split
  .rfl
  .have:x≠n:=by rintro rfl;exact h v AX
   simp[this]
def Hd{kindOf:Str->A5 OC}{x:Str}{v:A2}:∀{P:A0 Str} {vs:A0 A2} {i:Nat} {m:Str->A5 A2},P.Nodup->P[i]?=some x->vs[i]?=some v->kindOf x=some .local ->
  bindL kindOf (P.zip vs) m x=some v
 | [],_,_,_,_,h,_,_=>by simp at h
 | _::_,[],_,_,_,_,h,_=>by simp at h
 | p::P,w::vs,0,m,c,a,b,d=>by
  simp at a b;subst a;subst b;show bindL kindOf ((p,w)::P.zip vs) m p=_;unfold bindL;rw[Hs λv e=>(CL.mp c).1 (List.of_mem_zip e).1,AN d];simp
 | p::P,w::vs,i+1,m,c,a,b,d=>by
  show bindL kindOf ((p,w)::P.zip vs) m x=_;unfold bindL;exact Hd (i:=i) (CL.mp c).2 (by simpa using a) (by simpa using b) d
def He{kindOf:Str->A5 OC}{x:Str}{v:A2}:∀{P:A0 Str} {vs:A0 A2} {i:Nat} {m:Str->A5 A2},P.Nodup->P[i]?=some x->vs[i]?=some v->kindOf x≠some .local ->
  bindC kindOf (P.zip vs) m x=some v
 | [],_,_,_,_,h,_,_=>by simp at h
 | _::_,[],_,_,_,_,h,_=>by simp at h
 | p::P,w::vs,0,m,c,a,b,d=>by
  simp at a b;subst a;subst b;show bindC kindOf ((p,w)::P.zip vs) m p=_;unfold bindC;rw[Hi λv e=>(CL.mp c).1 (List.of_mem_zip e).1,AI d];simp
 | p::P,w::vs,i+1,m,c,a,b,d=>by
  show bindC kindOf ((p,w)::P.zip vs) m x=_;unfold bindC;exact He (i:=i) (CL.mp c).2 (by simpa using a) (by simpa using b) d
def Fa(N:A0 Str)(vs:A0 V):St:=vs.map some++List.replicate (N.length-vs.length) none
def Zg(CX:QZ)(P:HX)(w:HZ)(K:VA)(mg:Str->A5 A2)(base:IC)(N:A0 Str)(b:Str)(a:KR)(f:A3)(d:A2)(A:IE)(outer:A0 QY)(s:A4)(H:Hp)(E:XK):Cx where
 prog:=P
 w:=w
 K:=K
 mg:=mg
 base:=base
 A:=A.deeper (envOfC b a s.heap.objs.size f d)
 N:=N
 s₀:=s
 H₀:=H
 env:=envOfC b a s.heap.objs.size f d
 outer:=outer
 stack:=envOfC b a s.heap.objs.size f d::outer
 ex:=[]
 calm:=true
 fn:=λ_=>true
 pn:=[]
 xe:=λe g=>wpAny (model P w) (A.deeper (envOfC b a s.heap.objs.size f d)) (leaving (envOfC b a s.heap.objs.size f d) e) (λ_ c=>CX outer H s E e c) (λh c=>CX outer H s E h c) g
def Lf{a:KR}{n:Nat}{x:Str}(h:a.names.lookup x=some .cell):∃c,(cellsFrom n a.names []).lookup x=some c:=by
 have q:=PySem.W.cellsFrom_some a.names n [] (.inl h);exact FN.mp q
def Sc{CX:QZ}{P:HX}{w:HZ}{K:VA}{I:Str->A5 A2}{m:IC}{N ps:A0 Str}{j:Str}{d:KR}{f:A3}{D:A2}{A:IE}{g:A0 QY}{s J:A4}{H:Hp}{E:XK}{us:A0 A2}{vs:A0 V}
  (S:IB N ps d) (O:A.handled=none) (o:QN P w K I m A g s H) (U:vs.length=ps.length) (r:IJ vs us)
  (x:InCallC s s.heap.objs.size (bindL (envOfC j d s.heap.objs.size f D).kindOf (ps.zip us) λ_=>none) (cellsFrom (s.heap.objs.size+1) d.names []) (bindC (envOfC j d s.heap.objs.size f D).kindOf (ps.zip us) λ_=>none) J) :
  Inv (Zg CX P w K I m N j d f D A g s H E) [] (Fa N vs) H J:=by
 have Q:ps.length<=N.length:=by have:=congrArg List.length S.pre;rw[AZ]at this;lia
 obtain⟨F,X,rfl,L⟩:=x.done;have t:∀b:A3,b∉(Zg CX P w K I m N j d f D A g s H E).ex:=λb z=>absurd (show b∈([]:A0 A3)from z) (by simp);refine⟨⟨o.mod,S.kind,rfl,rfl,VD _,λy z c F l=>?_,λy hy=>?_,λy c _ h=>?_,λ_=>O,Around.frames_deeper o.frames,.inr ⟨rfl,rfl⟩,λb z=>absurd z (t b),o.bs,o.bsz,λb _ _=>t b,λb z=>absurd z (t b),o.funs,o.frf⟩,
  rfl,o.bare,Un.kept L,⟨_,x.toInCall.ns,λi y v F l Y=>?_⟩,λy c h=>⟨_,x.cell y c h⟩,o.hok.fresh (VD _),λy c h=>?_,λp B=>absurd (show p∈([]:A0 (A3×Obj))from B) (by simp),o.hok.kept L,?_⟩
 .exact name_of_addr x.apart (PySem.mem_of_lookup F) (PySem.mem_of_lookup l)
 .have hy:d.names.lookup y=some .cell\/d.names.lookup y=some .free:=hy;rcases hy with hy | hy
  .exact Lf hy
  .exact absurd rfl (S.nofree _ (PySem.mem_of_lookup hy))
 .exact DR (x.above y c (PySem.mem_of_lookup h))
 .have G:i<vs.length:=by
   unfold Fa at l;by_cases G:i<vs.length
   .exact G
   .rw[GP (by simpa using G)]at l;rw[List.getElem?_replicate]at l;split at l<;>cases l
  have R:vs[i]?=some v:=by
   unfold Fa at l;rw[GX (by simpa using G),AH]at l;cases e:vs[i]? with
   | none=>rw[e]at l;cases l
   | some a=>rw[e]at l;cases l;rfl
  obtain⟨u,M,T⟩:=r.get R;have B:ps[i]?=some y:=by
   rw[<-S.pre,DL (by lia)];exact F
  have C:ps.Nodup:=by rw[<-S.pre];exact S.nd.sublist (ES _ _)
  refine⟨u,T,?_⟩;rcases S.par y (BB B)with k | k
  .exact .inl ⟨k,Hd C B M k⟩
  .obtain⟨c,e⟩:=Lf (n:=s.heap.objs.size+1) k;refine .inr ⟨.inl k,c,e,?_⟩;have q:=x.cell y c e;rw[He C B M (by show d.names.lookup y≠_;rw[k];decide)]at q;exact q
 .exact o.hok.fresh (DR (x.above y c (PySem.mem_of_lookup h)))
 .unfold Fa;show _=N.length;rw[AV,AB,GK];lia
def zGp{CX:QZ}{P:HX}{w:HZ}{K:VA}{G:Str->A5 A2}{h:IC}{k:Nat}{f:A3}{name d:Str}{i:Arguments}{j:A0 IP}{a:KR}{X kV z Y g ct oc:A2}{Z od:A5 A3}
  {L:HW (A5 A2)} {N ps:A0 Str} {sp:Sp} (lk:K.lookup f=some ⟨oc,od,.func (PySem.W.fnOf name d i j a X kV z Y Z g ct),L⟩) (M:PySem.W.codeIn K g d=true) (S:IB N ps a)
  (B:∀vs H Q E,sp vs H Q E->vs.length=ps.length)
  (l:∀(A:IE) (c:A0 QY) (s:A4) (H:Hp) (vs:A0 V) (Q:VK) (E:XK),JV k (A.deeper (envOfC d a s.heap.objs.size f g))->sp vs H Q E ->
   ∃t,QK (Zg CX P w K G h N d a f g A c s H E) j t/\t { nx:=λ_ H'=>Q .non H',rt:=Q } (Fa N vs) H) :
  IM P w K G h CX (k+1) f (PySem.W.fnOf name d i j a X kV z Y Z g ct) ps sp:=by
 refine⟨B,λA c s H args us vs Q E O C hb r D=>?_⟩;have hl:=B _ _ _ _ D;have KX:K.In s.heap:=C.mod.kin.keeps λb o e=>(C.bs b o e).1;have R:s.heap.NoLimit:=C.mod.nolimit.keeps λb o e=>(C.bs b o e).1;have m:∀y∈ps.zip us,a.names.lookup y.1=some .local\/(a.names.lookup y.1=some .cell/\((cellsFrom (s.heap.objs.size+1) a.names []).lookup y.1).isSome=true):=λ⟨n,v⟩ hy=>by
  rcases S.par n (List.of_mem_zip hy).1 with q | q
  .exact .inl q
  .exact .inr ⟨q,PySem.W.cellsFrom_some _ _ _ (.inl q)⟩
 refine codeAny_call_function O.depth (KX _ _ lk) rfl S.co S.gen rfl (PySem.W.codeRec_of KX M) (hb _ _ _ _ ?_);refine wpAny_newFunctionEnv_cells S.kind m λenv he s1 x=>?_;subst he;refine⟨R.keeps x.toInCall.keep,codeAny_func ?_⟩;obtain⟨t,ht,hq⟩:=l A c s H vs Q E (O.deeper _) D;have I:Inv (Zg CX P w K G h N d a f g A c s H E) [] (Fa N vs) H s1:=Sc S O.hd C hl r x;refine B_ (ht [] s1 (Fa N vs) H _ I hq) (λfl T p=>?_) λe T p=>p;have F:∀{σ':St} {H':Hp} {v:V} {u:A2},Inv (Zg CX P w K G h N d a f g A c s H E) [] σ' H' T->RelV v u->Q v H'->CE c P w H s Q u T :=
  fun{σ' H' v u} J U q=>⟨v,H',J.os,J.bare,J.base,J.hok,U,q⟩
 cases fl with
 | ret u =>
  obtain⟨v,σ',H',J,U,q⟩:=p;exact F J U q
 | next =>
  obtain⟨σ',H',J,q⟩:=p;exact F (v:=V.non) (u:=Value.none) J rfl q
 | brk =>
  obtain⟨_,_,_,q⟩:=p;exact VB q
 | cont =>
  obtain⟨_,_,_,q⟩:=p;exact VB q
section
variable{X:Cx}{x:Str}{p pos:Pos}{e:IG}{es:A0 IG}{t:TA}{id T:String}{r:A0 V->Hp->VK->Prop}
def SF(r:A0 V->Hp->VK->Prop)(t:TA):TE:=λσ H Q=>t σ H λa b=>r a b Q
theorem Wh(d:J8 X (.builtin id) r)(f:Gl X x)(g:X.mg x=none)(i:bootBuiltins x=some (.builtin id))(j:PA X (e::es) t)(k:x≠ "__name__":=by decide)(b:(x ==("__debug__":Str))=false:=by decide)
  (l:starEach (e::es) X.env =(false,eval e X.env)::starEach es X.env:=by rfl) (c:(backTo pos (starEach es X.env)).any (·.1)=false:=by rfl):PE X (.Call (.Name x p) (e::es) [] pos) (SF r t):=by
 intro a s σ H Q I h;refine FY (An I f g i ?_ k b);exact PyProof.Rows.callWith_builtin1 (JB (j pos a s σ H _ I h) λm n ⟨o,q,u,v,w⟩=>d a n σ q o m Q u v w) l c
theorem Rs(d:J8 X (.type T) r)(f:Gl X x)(g:X.mg x=none)(i:bootBuiltins x=some (.type T))(j:PA X (e::es) t)(k:x≠ "__name__":=by decide)(b:(x ==("__debug__":Str))=false:=by decide)
  (l:starEach (e::es) X.env =(false,eval e X.env)::starEach es X.env:=by rfl) (c:(backTo pos (starEach es X.env)).any (·.1)=false:=by rfl):PE X (.Call (.Name x p) (e::es) [] pos) (SF r t):=by
 intro a s σ H Q I h;refine FY (An I f g i ?_ k b);exact VP (JB (j pos a s σ H _ I h) λm n ⟨o,q,u,v,w⟩=>d a n σ q o m Q u v w) l c
theorem Dm(c:J8 X (.type T) r)(d:Gl X x)(e:X.mg x=none)(f:bootBuiltins x=some (.type T))(g:x≠ "__name__":=by decide)(b:(x ==("__debug__":Str))=false:=by decide) :
  PE X (.Call (.Name x p) [] [] pos) (SF r Jw):=by
 intro a s σ H Q I h;refine FY (An I d e f ?_ g b);exact PyProof.Rows.callWith_type0 (c a s σ H [] [] Q I .nil h)
end
end L2
namespace HT
open PySem PyProof.Rows
section
variable{prog:HX}{w:HZ}{A:IE}{E:A2->A4->Prop}{s:A4}
theorem RU{t b:A3}{vs a:A0 A2}{Q:A2->A4->Prop}(u:IsTup s.heap t vs.toArray)(v:IsTup s.heap b a.toArray)(k:vs≠[])
  (h1:a = []->Q (.ref t) s) (h2:a≠[]->Q (.ref s.heap.objs.size) { s with heap:=s.heap.push { cls:=.type "tuple",data:=.seq (vs++a).toArray } })
  (hsz:vs.length+a.length<=sizeLine):wpAny (model prog w) A (binaryOp .Add (.ref t) (.ref b)) Q E s:=by
 obtain⟨⟨cls,l,data,m⟩,i,o,n,p⟩:=id u;obtain⟨⟨q,d,data2,f⟩,c,g,r,h⟩:=id v;simp only at o p g h;subst o p g h;have e:vs.toArray++a.toArray =(vs++a).toArray:=by simp
 by_cases j:a = []
 .exact concat_meets ⟨_,i,rfl⟩ ⟨_,c,rfl⟩ noFill_tuple_add seq_tuple_add VN VO (PySem.F.args_tuple_add_2 _ _)
   (tuple_addW1 t b vs.toArray a.toArray n r l d m f (by simpa using k) (by simp[j])) ⟨i,c,h1 j⟩
 .refine concat_meets ⟨_,i,rfl⟩ ⟨_,c,rfl⟩ noFill_tuple_add seq_tuple_add VN VO (PySem.F.args_tuple_add_2 _ _)
   (tuple_addW2 t b vs.toArray a.toArray n r l d m f (by simpa using k) (by simpa using j) (by rw[AR,AR];exact hsz)) ⟨i,c,?_⟩
  rw[e];exact h2 j
def JP(n d:Nat):A5 Int->Nat
 | none=>d
 | some v=>if v<0 then(v +(n:Int)).toNat else min v.toNat n
theorem zEv(n d:Nat)(b:d<=n)(o:A5 Int):JP n d o<=n:=by
 cases o with
 | none=>exact b
 | some v =>
  show(if v<0 then(v +(n:Int)).toNat else min v.toNat n)<=n;by_cases a:v<0
  .rw[AN a];lia
  .rw[AI a];exact Nat.min_le_right _ _
theorem Tm(v:Int)(n d:Nat):(if v<0 then max (v +(n:Int)) 0 else min v (n:Int)) =((JP n d (some v):Nat):Int):=by
 show(if v<0 then max (v +(n:Int)) 0 else min v (n:Int)) =(((if v<0 then(v +(n:Int)).toNat else min v.toNat n):Nat):Int);by_cases a:v<0
 .simp only[AN a];lia
 .simp only[AI a];lia
theorem Oq(lo hi:A5 Int)(n:Nat):Builtin.Slice.sliceAdjust lo hi 1 (n:Int) =(((JP n 0 lo:Nat):Int),((JP n n hi:Nat):Int)):=by
 have a:¬((1:Int)<0):=by lia
 unfold Builtin.Slice.sliceAdjust;simp only[a,CO];refine Prod.ext ?_ ?_
 .cases lo with
  | none=>rfl
  | some v=>exact Tm v n 0
 .cases hi with
  | none=>rfl
  | some v=>exact Tm v n n
theorem Pa(i j:Nat):Builtin.Slice.slicePlaces (i:Int) (j:Int) 1=j-i:=by
 unfold Builtin.Slice.slicePlaces;have a:(1:Int)>0:=by lia
 simp only[a,GM,Int.ediv_one];split<;>lia
theorem Em{v:A2}{o:A5 Int}{Q:A5 Int->A4->Prop}(p:IsPart v o)(h:Q o s):wpAny (model prog w) A (Builtin.Slice.slicePartIndex v) Q E s:=by
 cases p with
 | none=>exact slicePart_none h
 | int i t=>exact slicePart_int h
theorem X1{e:A3}{c d:A2}{lo hi:A5 Int}{n:Nat}{Q:Int×Int×Nat->A4->Prop}(f:s.heap.IsSliceOf e c d .none)(pl:IsPart c lo)(g:IsPart d hi)
  (h:Q (((JP n 0 lo:Nat):Int),1,JP n n hi-JP n 0 lo) s):wpAny (model prog w) A (Builtin.Slice.sliceApplied (.ref e) (pure (n:Int))) Q E s:=by
 obtain⟨os,a,i,b⟩:=id f;unfold Builtin.Slice.sliceApplied Builtin.Slice.sliceFields;refine AA (AA (CC a b (x:=c) rfl (AA (CC a b (x:=d) rfl (AA (CC a b (x:=.none) rfl (AD ?_)))))));refine AA (slicePart_none ?_);show wpAny _ _ (if((1:Int) == 0)=true then _ else _) _ _ s;rw[AI (by decide)];refine AA (Em pl (AA (Em g (AA (AD ?_)))));show wpAny _ _ (match Builtin.Slice.sliceAdjust lo hi 1 (n:Int)with | (lo,hi)=>pure (lo,(1:Int),Builtin.Slice.slicePlaces lo hi 1)) _ _ s;rw[Oq lo hi n];show wpAny _ _ (pure (((JP n 0 lo:Nat):Int),(1:Int),Builtin.Slice.slicePlaces ((JP n 0 lo:Nat):Int) ((JP n n hi:Nat):Int) 1)) _ _ s;rw[Pa];exact AD h
theorem Wc(xs:HW A2)(i k:Nat):((List.range k).filterMap λ(m:Nat)=>xs[((i:Int) +(m:Int)*1).toNat]?).toArray =((xs.toList.drop i).take k).toArray:=by
 have e:(λ(m:Nat)=>xs[((i:Int) +(m:Int)*1).toNat]?)=λm=>xs[i+m]?:=by
  funext m;have:((i:Int) +(m:Int)*1).toNat=i+m:=by lia
  rw[this]
 rw[e];have:=pick_run xs i k;rw[List.filterMap_map]at this;have a:((λx=>xs[x]?)∘λx=>i+x)=λm=>xs[i+m]?:=rfl;rw[a]at this;rw[this]
theorem NN{t c:A3}{items:HW A2}{i j:A2}{lo hi:A5 Int}{Q:A2->A4->Prop}(b:IsTup s.heap t items)(k:s.heap.IsSliceOf c i j .none)(pl:IsPart i lo)(l:IsPart j hi)
  (hw:¬(JP items.size 0 lo=0/\JP items.size items.size hi=items.size))
  (h:Q (.ref s.heap.objs.size) { s with heap:=s.heap.push { cls:=.type "tuple",data:=.seq ((items.toList.drop (JP items.size 0 lo)).take (JP items.size items.size hi-JP items.size 0 lo)).toArray } })
  (hsz:items.size<=sizeLine):wpAny (model prog w) A (getItem (.ref t) (.ref c)) Q E s:=by
 have a:sizeOk (.seq ((items.toList.drop (JP items.size 0 lo)).take (JP items.size items.size hi-JP items.size 0 lo)).toArray):=by
  show((items.toList.drop (JP items.size 0 lo)).take (JP items.size items.size hi-JP items.size 0 lo)).toArray.size<=sizeLine;rw[AR,AZ,DK,AS];lia
 have o:JP items.size items.size hi<=items.size:=zEv _ _ (VD _) hi;obtain⟨os,d,e,n⟩:=id k;have f:s.TypeIs (.ref c) "slice":=⟨os,d,e⟩;unfold getItem
 try with_reducible refine BP ?_
 first | refine AA (AD ?_) | skip
 refine AA (wpAny_sequenceKey b.typeIs (by decide) ?_);refine AA (CG (name:=Str.ofString "__getitem__") b.typeIs PyProof.Rows.slot_tuple_getitem
  (CF PyProof.Rows.slot_tuple_getitem b.typeIs entry_tuple_getitem ?_ (args_tuple_getitem _ _)))
 show wpAny _ _ (Builtin.Tuple.tupleItemsOf (.ref t) >>= _) _ _ s;refine AA (tupleItemsOf_ b ?_);refine AA (EY f ?_);rw[AN (by decide)];refine AA (X1 k pl l ?_);have g:¬((((JP items.size 0 lo:Nat):Int) == 0 &&(1:Int) == 1 &&(JP items.size items.size hi-JP items.size 0 lo) == items.size)=true):=by
  intro q;rw[CS,CS]at q;have p:((JP items.size 0 lo:Nat):Int)=0:=eq_of_beq q.1.1;have r:JP items.size items.size hi-JP items.size 0 lo=items.size:=eq_of_beq q.2;exact hw ⟨by lia,by lia⟩
 show wpAny _ _ (if(((JP items.size 0 lo:Nat):Int) == 0 &&(1:Int) == 1 &&(JP items.size items.size hi-JP items.size 0 lo) == items.size)=true then _ else _) _ _ s;rw[AI g,Wc]
 first
  | exact AA (m:=Builtin.Tuple.tupleExact _) (BV (AD ⟨_,rfl,AD h⟩) a)
  | exact AA (m:=Builtin.Tuple.tupleExact _) (BV (AA (AD (AD ⟨_,rfl,AD h⟩))) a)
  | exact AA (AA (m:=Builtin.Tuple.tupleExact _) (BV (AD (AD ⟨_,rfl,AD h⟩)) a))
  | exact AA (AA (m:=Builtin.Tuple.tupleExact _) (BV (AD ⟨_,rfl,AD h⟩) a))
end
end HT
namespace L2
open PySem PySem.Spec PyProof.Rows
abbrev TO:=St->Hp->(A5 Int->Hp->Prop)->Prop
def PO(X:Cx)(e:A5 IG)(t:TO):Prop :=
 ∀(a:A0 (A3×Obj)) (s:A4) (σ:St) (H:Hp) (Q:A5 Int->Hp->Prop),Inv X a σ H s->t σ H Q ->
  wpAny (model X.prog X.w) X.A (evalPart e X.env) (λu c=>∃o b,Inv X a σ b c/\IsPart u o/\Q o b) X.xe s
def Ts:TO:=λ_ H Q=>Q none H
def zCt(t:TE):TO:=λσ H Q=>t σ H λx a=>∃i,x = .int i/\Q (some i) a
section
variable{X:Cx}{e:IG}{te:TE}{lo hi:A5 IG}{tl th:TO}{pos p2:Pos}
theorem Y8:PO X none Ts:=by
 intro a s σ H Q I h;rw[evalPart_none];exact AD ⟨none,H,I,.none,h⟩
theorem Y2(h:PE X e te):PO X (some e) (zCt te):=by
 intro a s σ H Q I b;rw[evalPart_some];refine JB (h a s σ H _ I b) λu j ⟨x,c,d,f,g⟩=>?_;obtain⟨i,rfl,q⟩:=g;obtain⟨t,rfl⟩:=f;exact⟨some i,c,d,.int i t,q⟩
def RJ(X:Cx)(r:V->A5 Int->A5 Int->Hp->VK->Prop):Prop :=
 ∀(a:A0 (A3×Obj)) (s:A4) (σ:St) (H:Hp) (x:V) (v b c:A2) (lo hi:A5 Int) (d:A3) (Q:VK),Inv X a σ H s->RelV x v->s.heap.IsSliceOf d b c .none->IsPart b lo->IsPart c hi->r x lo hi H Q ->
  ∃T id,typeLookup (.type T) "__getitem__" = pure (some (.builtin id))/\s.TypeIs v T/\wpAny (model X.prog X.w) X.A (getItem v (.ref d)) (EP X a σ Q) X.xe s
theorem RJ.or{r b:V->A5 Int->A5 Int->Hp->VK->Prop}(h:RJ X r)(h':RJ X b):RJ X (λx lo hi H Q=>r x lo hi H Q\/b x lo hi H Q):=by
 intro a s σ H x v c d lo hi e Q I f g i j q;rcases q with q | q
 .exact h a s σ H x v c d lo hi e Q I f g i j q
 .exact h' a s σ H x v c d lo hi e Q I f g i j q
def tSl(r:V->A5 Int->A5 Int->Hp->VK->Prop)(te:TE)(tl th:TO):TE:=λσ H Q=>te σ H λx a=>tl σ a λl b=>th σ b λu c=>r x l u c Q
theorem T9{r:V->A5 Int->A5 Int->Hp->VK->Prop}(f:RJ X r)(g:PE X e te)(i:PO X lo tl)(j:PO X hi th):PE X (.Subscript e (.Slice lo hi none p2) pos) (tSl r te tl th):=by
 intro a s σ H Q I h;refine Subscript_ (JB (g a s σ H _ I h) λv k ⟨x,m,n,o,p⟩=>?_);refine wpAny_Slice (JB (i a k σ m _ n p) λc t ⟨l,y,z,B,C⟩=>JB (j a t σ y _ z C) λvu s3 ⟨u,d,D,E,F⟩=>?_);rw[evalPart_none];refine AD ?_;have G:Inv X a σ d { s3 with heap:=s3.heap.push { cls:=.type "slice",data:=.fields #[c,vu,.none] } }:=D.kept (t':=s3.toks) λb M q=>AC _ q;obtain⟨T,id,J,K,L⟩:=f a { s3 with heap:=s3.heap.push { cls:=.type "slice",data:=.fields #[c,vu,.none] } } σ d x v c vu l u s3.heap.objs.size Q G o (Heap.IsSliceOf.new ..) B E F;show wpAny (model X.prog X.w) X.A (subscriptTail e (.Slice lo hi none p2) v (.ref s3.heap.objs.size)) (EP X a σ Q) X.xe { s3 with heap:=s3.heap.push { cls:=.type "slice",data:=.fields #[c,vu,.none] } };exact tail_any (ops:=[.ref s3.heap.objs.size,v]) K J L (by with_unfolding_all rfl)
def Hm(xs:A0 V)(lo hi:A5 Int):A0 V:=(xs.drop (HT.JP xs.length 0 lo)).take (HT.JP xs.length xs.length hi-HT.JP xs.length 0 lo)
theorem Jl(xs:A0 V)(lo hi:A5 Int):(Hm xs lo hi).length<=xs.length:=by
 unfold Hm;rw[AZ,DK];lia
def zFl(K:VA):V->A5 Int->A5 Int->Hp->VK->Prop:=λx lo hi H Q=>∃a b,x = .ref a/\IV K H a b /\
 ¬(HT.JP b.length 0 lo=0/\HT.JP b.length b.length hi=b.length)/\∀p,H p=none->Q (.ref p) (H_ H p (.tup (Hm b lo hi)))
theorem Q_:RJ X (zFl X.K):=by
 intro f s σ H x v t u lo hi w Q I j k l m h;obtain⟨a,d,rfl,n,p,q⟩:=h;cases j;obtain⟨e,r,g,i⟩:=I.tuple n;have c:e.toArray.size=d.length:=by rw[AR];exact r.length.symm
 refine⟨"tuple",_,PyProof.Rows.slot_tuple_getitem.lookup,g.typeIs,?_⟩;refine HT.NN g k l m (by rw[c];exact p) ?_ (by rw[c];exact i);rw[c];refine⟨.ref s.heap.objs.size,_,I.laid (t':=s.toks) (o:=.tup (Hm d lo hi)) (λb y q=>AC _ q) (VD _) ?_,rfl,q _ (I.hok.fresh (VD _))⟩;exact⟨VE (Jl d lo hi) i,_,(r.drop (HT.JP d.length 0 lo)).take (HT.JP d.length d.length hi-HT.JP d.length 0 lo),IsTup.new _ _⟩
def zGx(K:VA):R2:=λx y H Q=>∃a b d c,x = .ref a/\y = .ref b/\IV K H a d/\IV K H b c/\d≠[]/\d.length+c.length<=sizeLine /\
 (c = []->Q (.ref a) H)/\(c≠[]->∀p,H p=none->Q (.ref p) (H_ H p (.tup (d++c))))
theorem IJ.nil_iff{xs:A0 V}{us:A0 A2}(r:IJ xs us):us = []↔xs = []:=by
 cases r with
 | nil=>simp
 | cons _ _=>simp
theorem zBe:KM X (binaryOp .Add) (zGx X.K):=by
 intro e s σ H x y v u Q I i j h;obtain⟨a,b,k,l,rfl,rfl,m,n,p,f,r,t⟩:=h;cases i;cases j;obtain⟨A,d,B,_⟩:=I.tuple m;obtain⟨g,c,p2,_⟩:=I.tuple n;refine HT.RU B p2 (λz=>p (d.nil_iff.mp z)) (λz=>⟨.ref a,H,I,rfl,r (c.nil_iff.mp z)⟩) (λz=>?_) (by rw[<-d.length,<-c.length];exact f);refine⟨.ref s.heap.objs.size,_,I.laid (t':=s.toks) (o:=.tup (k++l)) (λb C q=>AC _ q) (VD _) ?_,rfl,t (λw=>z (c.nil_iff.mpr w)) _ (I.hok.fresh (VD _))⟩;exact⟨by rw[AV];exact f,_,d.append c,IsTup.new _ _⟩
end
def RS(n:Nat)(i:Int):A5 Nat:=if 0<=i then(if i<n then some i.toNat else none)else if -(n:Int)<=i then some (i+n).toNat else none
def PN{α:Type}(xs:A0 α)(i:Int):A5 α:=(RS xs.length i).bind λj=>xs[j]?
def Pt{n:Nat}{i:Int}{j:Nat}(h:RS n i=some j):seqIndex? i n=some j/\j<n/\-(n:Int)<=i/\i<n:=by
 unfold RS at h;by_cases b:0<=i
 .rw[AN b]at h;by_cases a:i<n
  .rw[AN a]at h;have e:i.toNat=j:=BU h;exact⟨by rw[seqIndex_of b a,e],by lia,by lia,a⟩
  .rw[AI a]at h;cases h
 .rw[AI b]at h;by_cases a:-(n:Int)<=i
  .rw[AN a]at h;have e:(i+n).toNat=j:=BU h;exact⟨by rw[seqIndex_neg (by lia) a,e],by lia,a,by lia⟩
  .rw[AI a]at h;cases h
def Ko{α:Type}{xs:A0 α}{i:Int}{v:α}(h:PN xs i=some v):∃j,seqIndex? i xs.length=some j/\xs[j]?=some v/\j<xs.length/\-(xs.length:Int)<=i/\i<xs.length:=by
 unfold PN at h;cases e:RS xs.length i with
 | none=>rw[e]at h;cases h
 | some j =>
  rw[e]at h;obtain⟨a,b,c,d⟩:=Pt e;exact⟨j,a,h,b,c,d⟩
def O9{α:Type}{xs:A0 α}{j:Nat}{v:α}(h:xs[j]?=some v):PN xs (j:Int)=some v:=by
 have a:j<xs.length:=(AK.mp h).1;have e:RS xs.length (j:Int)=some j:=by
  unfold RS;rw[AN (by lia),AN (by lia)];simp
 unfold PN;rw[e];exact h
def Zd(b:IG):Prop:=∀o i,subscripted b false o i=operate [o,i] (getItem o i)
def TD(X:Cx)(r:R2):Prop :=
 ∀(c a:IG) (b:A0 (A3×Obj)) (s:A4) (σ:St) (H:Hp) (x y:V) (v u:A2) (Q:VK),Inv X b σ H s->RelV x v->RelV y u->r x y H Q ->
  subscripted a false v u=operate [v,u] (getItem v u)->wpAny (model X.prog X.w) X.A (subscriptTail c a v u) (EP X b σ Q) X.xe s
def MtR(X:Cx)(id:String)(r:V->A0 V->Hp->VK->Prop):Prop :=
 ∀(a:A0 (A3×Obj)) (s:A4) (σ:St) (H:Hp) (x:V) (b:A0 V) (v:A2) (c:A0 A2) (Q:VK),Inv X a σ H s->RelV x v->IJ b c->r x b H Q ->
  wpAny (model X.prog X.w) X.A (call (.builtin id) (v::c)) (EP X a σ Q) X.xe s
section
variable{X:Cx}{a b:IG}{ta tb:TE}{pos:Pos}
theorem E5{r:R2}(d:TD X r)(e:PE X a ta)(f:PE X b tb)(g:Zd b):PE X (.Subscript a b pos) (OS r ta tb):=by
 intro c s σ H Q I h;exact Subscript_ (zGd e f I h λv u i x y j k l m q=>d a b c i σ j x y v u Q k l m q (g _ _))
def S1(K:VA):R2:=λx y H Q=>∃p a i v,x = .ref p/\y = .int i/\II K H p a/\PN a i=some v/\Q v H
def zHs(K:VA):R2:=λx y H Q=>∃p a i v,x = .ref p/\y = .int i/\IV K H p a/\PN a i=some v/\Q v H
def zIb:R2:=λx y H Q=>∃z i c,x = .str z/\y = .int i/\z.length<=sizeLine/\PN z.cps.toList i=some c/\Q (.str ⟨#[c]⟩) H
theorem Zb:TD X (S1 X.K):=by
 intro d e a s σ H x y v u Q I A B h m;obtain⟨p,M,i,z,rfl,rfl,C,D,q⟩:=h;cases A;obtain⟨t,rfl⟩:=B;obtain⟨f,r,g,N⟩:=I.list C;obtain⟨j,c,E,O,F,G⟩:=Ko D;obtain⟨w,n,k⟩:=r.get E;have J:=r.length;have P:=Cp;have b:EP X a σ Q w s:=⟨z,H,I,k,q⟩;by_cases o:0<=i
 .have l:i.toNat=j:=by
   rw[seqIndex_of o G]at c;exact BU c
  exact item_listR g.isList o (by lia) (by rw[l];simpa using n) b m
 .have l:(i +(f.toArray.size:Int)).toNat=j:=by
   rw[seqIndex_neg (by lia) F]at c;rw[AR,<-J];exact BU c
  exact subscriptTail_builtinR (x:=w) g.isList.typeIs slot_list_getitem.lookup
   (wpAny_getItem_list_neg (Q:=λr L=>r=w/\EP X a σ Q r L) g.isList (by lia) (by rw[AR]<;>lia) (by lia) (by rw[l];simpa using n) ⟨rfl,b⟩) m
theorem zCw:TD X (zHs X.K):=by
 intro b c a s σ H x y v u Q I g k h l;obtain⟨p,F,i,z,rfl,rfl,m,n,q⟩:=h;cases g;obtain⟨t,rfl⟩:=k;obtain⟨o,r,f,G⟩:=I.tuple m;obtain⟨j,A,B,J,L,M⟩:=Ko n;obtain⟨w,C,d⟩:=r.get B;have D:=r.length;have N:=Cp;have e:EP X a σ Q w s:=⟨z,H,I,d,q⟩;exact subscriptTail_builtinR (x:=w) f.typeIs slot_tuple_getitem.lookup
  (getItem_tuple (j:=j) (Q:=λr E=>r=w/\EP X a σ Q r E) f (by lia) (by lia) (by rw[AR,<-D];exact A) (by simpa using C) ⟨rfl,e⟩) l
theorem Ta:TD X zIb:=by
 intro a b d s σ H x y v u Q I f g h k;obtain⟨z,i,c,rfl,rfl,A,l,q⟩:=h;obtain⟨t,rfl⟩:=f;obtain⟨B,rfl⟩:=g;obtain⟨j,e,m,C,n,o⟩:=Ko l;have p:z.cps.toList.length=z.length:=by simp[Str.length]
 rw[p]at e n o;have D:=Cp;exact tail_any (typeIs_str s z t) slot_str_getitem.lookup (getItem_str (c:=c) (by
  have r:decide (i < -(2^63:Int))=false:=AM (by lia);have w:decide (i ≥ 2^63)=false:=AM (by lia);rw[r,w,Bool.or_false]) (by rw[e];simpa using m) ⟨.str ⟨#[c]⟩,H,I.tok _,⟨_,rfl⟩,q⟩) k
theorem No(its:A0 A2)(n j:Nat)(u:A2):Obj.mapSeq (·.setIfInBounds j u) { cls:=.type "list",data:=.seq its.toArray n } ={ cls:=.type "list",data:=.seq (its.set j u).toArray n }:=by
 simp[Obj.mapSeq]
theorem Inv.lst{a:A0 (A3×Obj)}{σ:St}{H:Hp}{s:A4}{p:A3}{xs:A0 V}(I:Inv X a σ H s)(h:H p=some (.lst xs)) :
  ∃(its:A0 A2) (n:Nat),IJ xs its/\s.heap.get? p=some { cls:=.type "list",data:=.seq its.toArray n }/\xs.length<=sizeLine:=by
 obtain⟨z,its,n,r,e⟩:=I.hok p _ h;exact⟨its,n,r,e,z⟩
theorem Inv.lstUpd{a:A0 (A3×Obj)}{σ:St}{H:Hp}{s:A4}{p:A3}{xs c:A0 V}{its its':A0 A2}{n d:Nat}{f:Obj->Obj}(I:Inv X a σ H s)(h:H p=some (.lst xs))
  (i:s.heap.get? p=some { cls:=.type "list",data:=.seq its.toArray n }) (g:f { cls:=.type "list",data:=.seq its.toArray n } ={ cls:=.type "list",data:=.seq its'.toArray d }) (r:IJ c its') (hz:c.length<=sizeLine) (t:Nat) :
  Inv X a σ (H_ H p (.lst c)) { s with heap:=s.heap.update p f,toks:=t }:=by
 have e:(s.heap.update p f).get? p=some { cls:=.type "list",data:=.seq its'.toArray d }:=by
  rw[BZ f i (by rw[g]<;>rfl),g]
 refine I.write (x:=p) (e:=p) (by rw[h];trivial) (.inl rfl) (λb u j q=>(BH _ _ (Ne.symm j)).trans q) ⟨_,e⟩ ?_;exact⟨hz,its',d,r,e⟩
def zGc:V->V->V->Hp->(Hp->Prop)->Prop:=λo i v H Q=>∃p a k j,o = .ref p/\i = .int k/\H p=some (.lst a)/\RS a.length k=some j/\Q (H_ H p (.lst (a.set j v)))
theorem Bg:zHm X zGc:=by
 intro a s σ H o i v E F u Q I y z A h;obtain⟨p,B,k,j,rfl,rfl,g,C,q⟩:=h;cases y;obtain⟨t,rfl⟩:=z;obtain⟨b,n,r,d,D⟩:=I.lst g;obtain⟨c,G,l,m⟩:=Pt C;have e:=r.length;have J:=Cp;have w:Inv X a σ (H_ H p (.lst (B.set j v))) { s with heap:=s.heap.update p (Obj.mapSeq (·.setIfInBounds j u)) } :=
  I.lstUpd g d (No b n j u) (r.set A j) (by rw[List.length_set];exact D) s.toks
 by_cases x:0<=k
 .have f:k.toNat=j:=by
   rw[seqIndex_of x m]at c;exact BU c
  exact PySem.W.ki_setAt d x (by lia) (by rw[AR,<-e];exact m) (by rw[f];exact⟨_,w,q⟩)
 .have f:(k +(b.toArray.size:Int)).toNat=j:=by
   rw[seqIndex_neg (by lia) l]at c;rw[AR,<-e];exact BU c
  exact PySem.W.ki_setBack d (by lia) (by rw[AR,<-e];exact l) (by lia) (by rw[f];exact⟨_,w,q⟩)
def Gi:V->Bool
 | .non=>true
 | .bl _=>true
 | .int _=>true
 | .str _=>true
 | _=>false
def SC:V->V->Bool
 | .non,.non=>true
 | .bl a,.bl b=>a == b
 | .bl a,.int b=>(if a then 1 else 0) == b
 | .int a,.bl b=>a ==(if b then 1 else 0)
 | .int a,.int b=>a == b
 | .str a,.str b=>a == b
 | _,_=>false
theorem zDx{A:IE}{s:A4}{y x:V}{u v:A2}(e:RelV y u)(c:RelV x v)(g:Gi y=true)(f:Gi x=true):SeqAt.EqAt A s u v (SC y x):=by
 cases y with
 | non =>
  cases e;cases x with
  | non=>cases c;exact SeqAt.EqAt.same _
  | bl b=>cases c;exact SeqAt.EqAt.none_bool b
  | int b=>obtain⟨t,rfl⟩:=c;exact SeqAt.EqAt.none_int b t
  | str b=>obtain⟨t,rfl⟩:=c;exact SeqAt.EqAt.none_str b t
  | _=>exact absurd (show false=true from f) BE
 | bl a =>
  cases e;cases x with
  | non=>cases c;exact SeqAt.EqAt.bool_none a
  | bl b=>cases c;exact SeqAt.EqAt.bool_bool a b
  | int b=>obtain⟨t,rfl⟩:=c;exact SeqAt.EqAt.bool_int a b t
  | str b=>obtain⟨t,rfl⟩:=c;exact SeqAt.EqAt.bool_str a b t
  | _=>exact absurd (show false=true from f) BE
 | int a =>
  obtain⟨d,rfl⟩:=e;cases x with
  | non=>cases c;exact SeqAt.EqAt.int_none a d
  | bl b=>cases c;exact SeqAt.EqAt.int_bool a d b
  | int b=>obtain⟨t,rfl⟩:=c;exact SeqAt.EqAt.int_int a d b t
  | str b=>obtain⟨t,rfl⟩:=c;exact SeqAt.EqAt.int_str a d b t
  | _=>exact absurd (show false=true from f) BE
 | str a =>
  obtain⟨d,rfl⟩:=e;cases x with
  | non=>cases c;exact SeqAt.EqAt.str_none a d
  | bl b=>cases c;exact SeqAt.EqAt.str_bool a d b
  | int b=>obtain⟨t,rfl⟩:=c;exact SeqAt.EqAt.str_int a d b t
  | str b=>obtain⟨t,rfl⟩:=c;exact SeqAt.EqAt.str_str a d b t
  | _=>exact absurd (show false=true from f) BE
 | _=>exact absurd (show false=true from g) BE
def QJ(x:V)(u:A2):Bool:=match u with
 | .none=>SC .non x
 | .bool b=>SC (.bl b) x
 | .int i _=>SC (.int i) x
 | .str z _=>SC (.str z) x
 | _=>false
theorem Xo{x y:V}{u:A2}(r:RelV y u)(f:Gi y=true):QJ x u=SC y x:=by
 cases y with
 | non=>cases r;rfl
 | bl b=>cases r;rfl
 | int i=>obtain⟨t,rfl⟩:=r;rfl
 | str z=>obtain⟨t,rfl⟩:=r;rfl
 | _=>exact absurd (show false=true from f) BE
theorem Bo{x:V}:∀{xs:A0 V} {us:A0 A2},IJ xs us->xs.all Gi=true->us.any (QJ x)=xs.any λy=>SC y x
 | _,_,.nil,_=>rfl
 | y::xs,u::us,.cons r t,f=>by
  rw[List.all_cons,CS]at f;rw[GI,GI,Xo r f.1,Bo t f.2]
theorem o7{A:IE}{s:A4}{x:V}{v:A2}(a:RelV x v)(b:Gi x=true):∀{xs:A0 V} {us:A0 A2},IJ xs us->xs.all Gi=true->∀u∈us,SeqAt.EqAt A s u v (QJ x u)
 | _,_,.nil,_=>λu hu=>by cases hu
 | y::xs,u::us,.cons r t,f=>λc hu=>by
  rw[List.all_cons,CS]at f;rcases AU.mp hu with rfl | hu
  .rw[Xo r f.1];exact zDx r a f.1 b
  .exact o7 a b t f.2 c hu
def inV(x:V)(xs:A0 V):Bool:=xs.any λy=>SC y x
def SJ(K:VA)(neg:Bool):R2:=λx y H Q=>∃p a,y = .ref p/\(II K H p a\/IV K H p a)/\Gi x=true/\a.all Gi=true/\Q (.bl (if neg then !inV x a else inV x a)) H
theorem Sr:KM X (compareOp .In) (SJ X.K false):=by
 intro e s σ H x y v u Q I f i h;obtain⟨p,k,rfl,hq,g,b,q⟩:=h;cases i;rcases hq with hq | hq
 .obtain⟨a,r,c,j⟩:=I.list hq;refine SeqAt.in_listAt (QJ x) c.isList (λw d=>o7 f g r b w (by simpa using d)) ⟨.bl _,H,I,rfl,?_⟩;rw[show a.toArray.any (QJ x)=a.any (QJ x) by simp,Bo r b];exact q
 .obtain⟨a,r,c,j⟩:=I.tuple hq;refine SeqAt.in_tupleAt (QJ x) c (λw d=>o7 f g r b w (by simpa using d)) ⟨.bl _,H,I,rfl,?_⟩;rw[show a.toArray.any (QJ x)=a.any (QJ x) by simp,Bo r b];exact q
theorem Ii:KM X (compareOp .NotIn) (SJ X.K true):=by
 intro e s σ H x y v u Q I f i h;obtain⟨p,k,rfl,hq,g,b,q⟩:=h;cases i;rcases hq with hq | hq
 .obtain⟨a,r,c,j⟩:=I.list hq;refine SeqAt.notIn_listAt (QJ x) c.isList (λw d=>o7 f g r b w (by simpa using d)) ⟨.bl _,H,I,rfl,?_⟩;rw[show a.toArray.any (QJ x)=a.any (QJ x) by simp,Bo r b];exact q
 .obtain⟨a,r,c,j⟩:=I.tuple hq;refine SeqAt.notIn_tupleAt (QJ x) c (λw d=>o7 f g r b w (by simpa using d)) ⟨.bl _,H,I,rfl,?_⟩;rw[show a.toArray.any (QJ x)=a.any (QJ x) by simp,Bo r b];exact q
theorem Hf:KM X (compareOp .NotIn) (λx y H Q=>∃i j,x = .str i/\y = .str j/\Q (.bl (!(!(Builtin.Str.occurrences j i 0 j.length 1).isEmpty))) H):=by
 intro a s σ H x y v u Q I b c h;obtain⟨i,j,rfl,rfl,q⟩:=h;obtain⟨t,rfl⟩:=b;obtain⟨d,rfl⟩:=c;exact notIn_str ⟨.bl _,H,I,rfl,q⟩
theorem Hq:J8 X (.builtin "len") (λxs H Q=>∃p b,xs = [.ref p]/\(II X.K H p b\/IV X.K H p b)/\Q (.int b.length) H):=by
 intro f s σ H xs j Q I r h;obtain⟨p,b,rfl,hq,q⟩:=h;obtain⟨u,rfl,g⟩:=Y3 r;cases g;have k:=Cp;rcases hq with hq | hq
 .obtain⟨c,d,e,i⟩:=I.list hq;have a:=d.length;exact Calls.call_len_list e.isList (by simp only[AR]<;>lia) ⟨.int b.length,H,I.tok _,⟨s.toks+1,by rw[AR,a]⟩,q⟩
 .obtain⟨c,d,e,i⟩:=I.tuple hq;have a:=d.length;exact len_tuple e (by simp only[AR]<;>lia) ⟨.int b.length,H,I.tok _,⟨s.toks+1,by rw[AR,a]⟩,q⟩
theorem U0:J8 X (.builtin "len") (λxs H Q=>∃z,xs = [.str z]/\z.length<=sizeLine/\Q (.int z.length) H):=by
 intro a s σ H xs b Q I r h;obtain⟨z,rfl,c,q⟩:=h;obtain⟨u,rfl,t,rfl⟩:=Y3 r;have d:=Cp;exact len_str (by lia) ⟨.int z.length,H,I.tok _,⟨_,rfl⟩,q⟩
theorem Je:J8 X (.type "list") (λxs H Q=>∃p d,xs = [.ref p]/\(II X.K H p d\/IV X.K H p d)/\∀l,H l=none->Q (.ref l) (H_ H l (.lst d))):=by
 intro i s σ H xs C Q I r h;obtain⟨p,d,rfl,hq,q⟩:=h;obtain⟨u,rfl,B⟩:=Y3 r;cases B;have j:∀(a:A0 A2),IJ d a->d.length<=sizeLine->∀(c:IC) (f:Nat),(∀b A,s.heap.get? b=some A->c.get? b=some A) ->
   c.get? s.heap.objs.size=some { cls:=.type "list",dict:=none,data:=.seq a.toArray f,slots:=#[] }->EP X i σ Q (.ref s.heap.objs.size) { s with heap:=c }:=λa g k c f m e =>
  ⟨.ref s.heap.objs.size,_,I.laid (t':=s.toks) m (VD _) (show IU X.prog X.w _ c _ (.lst d)from⟨k,a,f,g,e⟩),rfl,q _ (I.hok.fresh (VD _))⟩
 rcases hq with hq | hq
 .obtain⟨a,g,v,k⟩:=I.list hq;have t:=g.length;obtain⟨o,x,y,n,z⟩:=v.isList;exact call_list_seq p (.inl rfl) x y z (λc f m e=>j a g k c f m e) (by simp only[AR]<;>lia)
 .obtain⟨a,g,v,k⟩:=I.tuple hq;have t:=g.length;obtain⟨o,x,y,n,z⟩:=v;exact call_list_seq p (.inr rfl) x y z (λc f m e=>j a g k c f m e) (by simp only[AR]<;>lia)
def tyV(K:VA)(T:String)(x:V)(H:Hp):Prop:=match x with
 | .str _=>T = "str"
 | .int _=>T = "int"
 | .ref p=>(T = "list"/\∃b,II K H p b)\/(T = "tuple"/\∃o,K.lookup p=some o/\o.cls = .type "tuple"/\o.dict=none) \/
   (T = "dict"/\((∃a,H p=some (.dK a))\/∃a,H p=some (.dT a)))\/(T = "set"/\∃S n,H p=some (.set S n))
 | _=>False
theorem Xi{f:A0 (A3×Obj)}{σ:St}{H:Hp}{s:A4}{T:String}{x:V}{v:A2}(I:Inv X f σ H s)(r:RelV x v)(ty:tyV X.K T x H) :
  s.TypeIs v T/\∀a,v = .ref a->∃k,s.heap.get? a=some k/\k.dict=none:=by
 cases x with
 | str z =>
  obtain⟨t,rfl⟩:=r;cases(show T = "str" from ty);exact⟨typeIs_str s z t,λ_ e=>nomatch e⟩
 | int i =>
  obtain⟨t,rfl⟩:=r;cases(show T = "int" from ty);exact⟨typeIs_int s i t,λ_ e=>nomatch e⟩
 | ref p =>
  cases r;rcases ty with⟨rfl,w,m⟩ | ⟨rfl,o,b,q,g⟩ | ⟨rfl,b⟩ | ⟨rfl,S,n,b⟩
  .obtain⟨u,_,l,_⟩:=I.list m;refine⟨l.isList.typeIs,λa e=>?_⟩;cases e;obtain⟨o,n,e,c,g,_⟩:=l;exact⟨o,e,g⟩
  .refine⟨⟨o,I.kIn p o b,q⟩,λa e=>?_⟩;cases e;exact⟨o,I.kIn _ o b,g⟩
  .have z:∃o,s.heap.get? p=some o/\o.ExactDict:=by
    rcases b with⟨h,b⟩ | ⟨h,b⟩
    .obtain⟨_,_,_,_,o,_,_,e,d,_⟩:=I.hok p _ b;exact⟨o,e,d⟩
    .obtain⟨_,_,_,_,o,_,_,e,d,_⟩:=I.hok p _ b;exact⟨o,e,d⟩
   obtain⟨o,e,d⟩:=z;refine⟨⟨o,e,d.1⟩,λa j=>?_⟩;cases j;exact⟨o,e,d.2.1⟩
  .obtain⟨o,_,_,_,e,d,_⟩:=I.hok p _ b;refine⟨⟨o,e,d.1⟩,λa j=>?_⟩;cases j;exact⟨o,e,d.2.1⟩
 | _=>exact VB ty
def zHv(K:VA)(T:String)(r:V->A0 V->Hp->VK->Prop)(b:TE):TE:=λσ H Q=>b σ H λx a=>tyV K T x a/\r x [] a Q
def tBM(K:VA)(T:String)(r:V->A0 V->Hp->VK->Prop)(b:TE)(t:TA):TE:=λσ H Q=>b σ H λx a=>tyV K T x a/\t σ a λc d=>r x c d Q
variable{o e:IG}{es:A0 IG}{to:TE}{t:TA}{name:Str}{apos cpos:Pos}{T id:String}{r:V->A0 V->Hp->VK->Prop}
theorem zFi(i:PlainAttrs T)(d:Slot T name id)(e:typeOf (.builtin id)=pure (.type "method_descriptor"))(j:MtR X id r)(k:PE X o to)
  (b:attributeBase o name X.env (eval o X.env)=eval o X.env:=by rfl) (c:(apos.endLine == cpos.line)=true:=by rfl):PE X (.Call (.Attribute o name apos) [] [] cpos) (zHv X.K T r to):=by
 intro a s σ H Q I h;refine wpAny_Call_method0_late b c (JB (k a s σ H _ I h) λv l ⟨x,m,f,g,ty,n⟩=>?_);obtain⟨p,q⟩:=Xi f g ty;exact⟨T,id,i,d,e,p,q,Calls.callWith_builtin rfl (PySem.evalArgs_none (j a l σ m x [] v [] Q f g .nil n))⟩
theorem zGj(m:PlainAttrs T)(f:Slot T name id)(i:typeOf (.builtin id)=pure (.type "method_descriptor"))(n:MtR X id r)(p:PE X o to)(q:PA X (e::es) t)
  (c:attributeBase o name X.env (eval o X.env)=eval o X.env:=by rfl)
  (g:((backTo cpos (starEach (e::es) X.env)).all (λx=>!x.1) &&(backToKw cpos (keywordEach [] X.env)).all (λx=>x.1.isSome)
   && decide ((e::es).length +([]:A0 Keyword).length +(if([]:A0 Keyword).isEmpty then 0 else 1)<30))=true:=by rfl)
  (d:(apos.endLine == cpos.line)=true:=by rfl) (u:starEach (e::es) X.env =(false,eval e X.env)::starEach es X.env:=by rfl) (b:(backTo cpos (starEach es X.env)).any (·.1)=false:=by rfl) :
  PE X (.Call (.Attribute o name apos) (e::es) [] cpos) (tBM X.K T r to t):=by
 intro a s σ H Q I h;refine wpAny_Call_method_late c g d rfl (JB (p a s σ H _ I h) λv w ⟨x,y,j,k,ty,z⟩=>?_);obtain⟨A,B⟩:=Xi j k ty;refine⟨T,id,m,f,i,A,B,?_⟩;have l:=q cpos a w σ y _ j z;rw[u]at l⊢;refine Calls.callWith_builtin (by show(false||(backTo cpos (starEach es X.env)).any (·.1))=false;rw[b]<;>rfl) (Calls.evalArgs_plain ?_);exact JB l λC D ⟨E,F,G,J,L⟩=>n a D σ F x E v C Q G k J L
end
def PX(X:Cx)(id:String)(r:V->A0 V->Hp->VK->Prop):Prop :=
 ∀(a:A0 (A3×Obj)) (s:A4) (σ:St) (H:Hp) (x:V) (b:A0 V) (v:A2) (c:A0 A2) (Q:VK),Inv X a σ H s->RelV x v->IJ b c->r x b H Q ->
  wpAny (model X.prog X.w) X.A (call (.builtin id) (v::c)) (EP X a σ Q) X.xe s
def IJ.one:∀{x:V} {us:A0 A2},IJ [x] us->∃u,us = [u]/\RelV x u
 | _,_,.cons r .nil=>⟨_,rfl,r⟩
def IJ.two:∀{x y:V} {us:A0 A2},IJ [x,y] us->∃u v,us = [u,v]/\RelV x u/\RelV y v
 | _,_,_,.cons r (.cons q .nil)=>⟨_,_,rfl,r,q⟩
def IJ.zero:∀{us:A0 A2},IJ [] us->us = []
 | _,.nil=>rfl
def IJ.dropLast{xs:A0 V}{us:A0 A2}(h:IJ xs us):IJ xs.dropLast us.dropLast:=by
 induction h with
 | nil=>exact .nil
 | cons r t a =>
  cases t with
  | nil=>exact .nil
  | cons q b=>exact .cons r a
def IJ.eraseIdx:∀{xs:A0 V} {us:A0 A2} (i:Nat),IJ xs us->IJ (xs.eraseIdx i) (us.eraseIdx i)
 | _,_,_,.nil=>.nil
 | _,_,0,.cons _ t=>t
 | _,_,i+1,.cons r t=>.cons r (IJ.eraseIdx i t)
def IJ.rep{xs:A0 V}{us:A0 A2}(h:IJ xs us):∀k:Nat,IJ (List.replicate k xs).flatten (List.replicate k us).flatten
 | 0=>.nil
 | k+1=>by
  rw[DB,DB,FM,FM];exact IJ.append h (IJ.rep h k)
def Nn{α:Type}(l:A0 α):l.eraseIdx (l.length-1)=l.dropLast:=by
 induction l with
 | nil=>rfl
 | cons a r c =>
  cases r with
  | nil=>rfl
  | cons b r =>
   have e:(a::b::r).length-1 =((b::r).length-1)+1:=by
    have d:(a::b::r).length=r.length+2:=rfl;have f:(b::r).length=r.length+1:=rfl;lia
   rw[e,List.eraseIdx_cons_succ,c]
   all_goals rfl
def Hk{α:Type}:∀(l:A0 α) (i:Nat),(l.eraseIdx i).length<=l.length
 | [],_=>VD _
 | _::_,0=>DM _
 | _::r,i+1=>E_ (Hk r i)
def Ic(its:A0 A2):∀(k:Nat) (a:A0 A2),
  List.foldl (λb c=>b++c) a.toArray (List.replicate k its.toArray) =(a ++(List.replicate k its).flatten).toArray
 | 0,a=>by simp
 | k+1,a=>by
  have e:a.toArray++its.toArray =(a++its).toArray:=by simp
  have d:(a++its) ++(List.replicate k its).flatten=a ++(List.replicate (k+1) its).flatten:=by
   rw[DB,FM,BG]
  rw[<-d,<-Ic its k (a++its),<-e,DB,GA]
section
variable{X:Cx}{pins:A0 (A3×Obj)}{σ:St}{H:Hp}{s:A4}{l b:A3}{xs ys zs:A0 V}
theorem Inv.lset{its its':A0 A2}{n:Nat}{f:HW A2->HW A2}{t':Nat}(I:Inv X pins σ H s)(a:H l=some (.lst xs))
  (e:s.heap.get? l=some { cls:=.type "list",data:=.seq its.toArray n }) (b:f its.toArray=its'.toArray) (c:IJ ys its') (hz:ys.length<=sizeLine) :
  Inv X pins σ (H_ H l (.lst ys)) { s with heap:=s.heap.update l (Obj.mapSeq f),toks:=t' }:=by
 have q:=PySem.IsL.update e f;rw[b]at q;refine I.write (x:=l) (e:=l) (by rw[a];exact trivial) (.inl rfl) (λh u d g=>(BH s.heap (Obj.mapSeq f) (Ne.symm d)).trans g) ⟨_,q⟩ ?_;exact⟨hz,its',_,c,q⟩
theorem Inv.lnew{its:A0 A2}{t':Nat}(I:Inv X pins σ H s)(a:IJ ys its)(hz:ys.length<=sizeLine) :
  Inv X pins σ (H_ H s.heap.objs.size (.lst ys)) { s with heap:=s.heap.push { cls:=.type "list",data:=.seq its.toArray },toks:=t' } :=
 I.laid (λ_ _ q=>AC _ q) (VD _) ⟨hz,its,0,a,AW _ rfl⟩
theorem Inv.fresh(I:Inv X pins σ H s):H s.heap.objs.size=none:=I.hok.fresh (VD _)
theorem Inv.lstM(I:Inv X pins σ H s)(a:H l=some (.lst xs)):xs.length<=sizeLine/\∃(its:A0 A2) (n:Nat),IJ xs its/\xs.length=its.length/\s.heap.get? l=some { cls:=.type "list",data:=.seq its.toArray n }:=by
 obtain⟨z,its,n,r,e⟩:=I.hok l _ a;exact⟨z,its,n,r,r.length,e⟩
theorem Lh{n:Nat}(h:n<=sizeLine):Builtin.List.listTooLong n=false:=by
 unfold Builtin.List.listTooLong;exact AM (by lia)
end
section
variable{X:Cx}
def Zc:V->A0 V->Hp->VK->Prop:=λx b H Q=>∃l a y,x = .ref l/\b = [y]/\H l=some (.lst a)/\a.length<sizeLine/\Q .non (H_ H l (.lst (a ++ [y])))
theorem S0:PX X "list.append" Zc:=by
 intro b s σ H x i v j Q I d f h;obtain⟨l,k,y,rfl,rfl,c,m,q⟩:=h;cases d;obtain⟨u,rfl,g⟩:=f.one;obtain⟨z,a,n,r,o,e⟩:=I.lstM c;refine call_meets F.slot_list_append ⟨_,e,rfl⟩ F.entry_list_append (F.args_list_append_2 _ _) (PySem.list_append l a.toArray n u (by rw[AR];lia)) ⟨e,?_⟩;refine⟨.non,_,I.lset (its':=a ++ [u]) c e (by simp) (r.append (.cons g .nil)) ?_,rfl,q⟩;rw[AV,GL];lia
def zBf:V->A0 V->Hp->VK->Prop:=λx d H Q=>∃l b a c,x = .ref l/\d = [.ref b]/\H l=some (.lst a)/\H b=some (.lst c)/\a.length+c.length<=sizeLine/\Q .non (H_ H l (.lst (a++c)))
theorem Tn:PX X "list.extend" zBf:=by
 intro g s σ H x A v B Q I j k h;obtain⟨l,b,C,D,rfl,rfl,i,m,E,q⟩:=h;cases j;obtain⟨u,rfl,o⟩:=k.one;cases o;obtain⟨z,c,n,r,G,e⟩:=I.lstM i;obtain⟨J,a,p,t,w,y⟩:=I.lstM m;have f:c.toArray.size+a.toArray.size<=sizeLine:=by rw[AR,AR];lia
 have d:¬(!c.toArray.isEmpty&&Builtin.List.listTooLong (c.toArray.size+a.toArray.size))=true:=by
  rw[Lh f,HJ];exact BE
 refine call_meets F.slot_list_extend ⟨_,e,rfl⟩ F.entry_list_extend (F.args_list_extend_2 _ _)
  (AutoSeq1.list_extend_list_list_0 l c.toArray n b a.toArray p d (by rw[AR];lia) (by lia)) ⟨e,y,?_⟩
 refine⟨.non,_,I.lset (its':=c++a) i e (by simp) (r.append t) ?_,rfl,q⟩;rw[AV];lia
def zIf:V->A0 V->Hp->VK->Prop:=λx b H Q=>∃l a y,x = .ref l/\b = []/\H l=some (.lst a)/\a[a.length-1]?=some y/\Q y (H_ H l (.lst a.dropLast))
theorem zBx:PX X "list.pop" zIf:=by
 intro d s σ H x p v t Q I g i h;obtain⟨l,w,y,rfl,rfl,f,j,q⟩:=h;cases g;have b:=i.zero;subst b;obtain⟨z,a,n,r,k,e⟩:=I.lstM f;obtain⟨u,m,o⟩:=r.get j;have c:a.toArray[a.toArray.size-1]?=some u:=by
  show a.toArray[a.length-1]?=some u;rw[<-BJ,<-k];exact m
 refine call_meets F.slot_list_pop ⟨_,e,rfl⟩ F.entry_list_pop (F.args_list_pop_1 _) (MeetsSeq.list_pop_last l a.toArray n u c (by rw[AR];lia)) ⟨e,?_⟩;refine⟨y,_,I.lset (its':=a.dropLast) f e ?_ r.dropLast ?_,o,q⟩
 .show a.toArray.eraseIdxIfInBounds (a.toArray.size-1)=a.dropLast.toArray;rw[AR,List.eraseIdxIfInBounds_toArray,Nn]
 .rw[List.length_dropLast];lia
def zEr:V->A0 V->Hp->VK->Prop:=λx b H Q=>∃l a i k y,x = .ref l/\b = [.int i]/\H l=some (.lst a)/\-(2^63)<=i/\i<2^63/\seqIndex? i a.length=some k/\a[k]?=some y/\Q y (H_ H l (.lst (a.eraseIdx k)))
theorem Vr:PX X "list.pop" zEr:=by
 intro c s σ H x E v G Q I f g h;obtain⟨l,j,i,k,y,rfl,rfl,d,m,o,p,A,q⟩:=h;cases f;obtain⟨u,rfl,B⟩:=g.one;obtain⟨t,rfl⟩:=B;obtain⟨z,a,n,r,C,e⟩:=I.lstM d;obtain⟨w,D,b⟩:=r.get A;refine call_meets F.slot_list_pop ⟨_,e,rfl⟩ F.entry_list_pop (F.args_list_pop_2 _ _)
  (MeetsSeq.list_pop_at l a.toArray n i t k w (fitsIndex_both m o) (by rw[AR,<-C];exact p) (by rw[<-BJ];exact D) (by rw[AR];lia)) ⟨e,?_⟩
 refine⟨y,_,I.lset (its':=a.eraseIdx k) d e ?_ (r.eraseIdx k) ?_,b,q⟩
 .show a.toArray.eraseIdxIfInBounds k =(a.eraseIdx k).toArray;rw[List.eraseIdxIfInBounds_toArray]
 .have:=Hk j k;lia
def zId:R2:=λx y H Q=>∃l b a c,x = .ref l/\y = .ref b/\H l=some (.lst a)/\H b=some (.lst c)/\a.length+c.length<=sizeLine/\∀p,H p=none->Q (.ref p) (H_ H p (.lst (a++c)))
theorem Dr:KM X (binaryOp .Add) zId:=by
 intro d s σ H x y v u Q I f g h;obtain⟨l,b,t,w,rfl,rfl,i,j,A,q⟩:=h;cases f;cases g;obtain⟨z,c,n,r,B,e⟩:=I.lstM i;obtain⟨C,a,D,k,m,o⟩:=I.lstM j;refine PySem.P.add_list e o ?_ (by rw[AR,AR];lia);have p:c.toArray++a.toArray =(c++a).toArray:=by simp
 rw[p];exact⟨.ref _,_,I.lnew (t':=s.toks) (r.append k) (by rw[AV];lia),rfl,q _ I.fresh⟩
def zIc:R2:=λx y H Q=>∃l k a,x = .ref l/\y = .int k/\H l=some (.lst a)/\-(2^63)<=k/\k<2^63/\a.length*k.toNat<=sizeLine /\
 ∀p,H p=none->Q (.ref p) (H_ H p (.lst (List.replicate k.toNat a).flatten))
theorem zAa{α:Type}(xs:A0 α)(k:Nat):(List.replicate k xs).flatten.length=k*xs.length:=by
 induction k with
 | zero=>simp
 | succ k a=>rw[DB,FM,AV,a,Nat.succ_mul,Nat.add_comm]
theorem Yb:KM X (binaryOp .Mult) zIc:=by
 intro p s σ H x y v u Q I A B h;obtain⟨l,k,L,rfl,rfl,C,D,E,w,q⟩:=h;cases A;obtain⟨t,rfl⟩:=B;obtain⟨z,b,n,r,G,e⟩:=I.lstM C;have d:b.toArray.size*k.toNat<=sizeLine:=by rw[AR,<-G];exact w
 have f:¬b.toArray.size*k.toNat >(2^63-1) / 8:=by
  have:(sizeLine:Nat)<=(2^63-1) / 8:=by decide
  lia
 have g:¬(!Builtin.List.listFitsIndex k)=true:=by
  rw[fitsIndex_both D E];exact BE
 have c:¬Builtin.List.listTooLong (b.toArray.size*k.toNat)=true:=by
  rw[Lh d];exact BE
 have i:List.foldl (λj o=>j++o) #[] (List.replicate (if b.toArray.isEmpty=true then 0 else k.toNat) b.toArray) =(List.replicate k.toNat b).flatten.toArray:=by
  have J:∀m:Nat,List.foldl (λj o=>j++o) #[] (List.replicate m b.toArray) =(List.replicate m b).flatten.toArray:=λm=>by
   have:=Ic b m [];rw[GB]at this;exact this
  rw[J];cases b with
  | nil=>simp
  | cons a M=>rw[AI (by simp)]
 refine wpAny_binaryOp_repeat_ref (T := "list") (U := "int") (by decide) ⟨_,e,rfl⟩ (λK=>typeIs_int K k t) noFill_list_mul F.fills_int_mul F.slot_int_rmul repeat_list F.slot_int_index.lookup
  (call_meets F.slot_int_rmul (typeIs_int s k t) F.entry_int_rmul (F.args_int_rmul_2 _ _) (int___rmul___int_list k t l b.toArray n)
   ⟨e,rfl,⟨_,e,rfl⟩,call_meets F.slot_list_mul ⟨_,e,rfl⟩ F.entry_list_mul (F.args_list_mul_2 _ _) (AutoListH.list___mul___list_int_3 l b.toArray n k t g f c) ⟨e,?_⟩⟩)
 rw[i];exact⟨.ref _,_,I.lnew (t':=s.toks) (r.rep k.toNat) (by rw[zAa,Nat.mul_comm];exact w),rfl,q _ I.fresh⟩
end
section
variable{Z:Type}[DecidableEq Z]
def X4(kvs:A0 (Z×V))(k:Z):A5 V:=(kvs.find? λa=>decide (a.1=k)).map (·.2)
def Bd(kvs:A0 (Z×V))(k:Z)(v:V):A0 (Z×V) :=
 if(kvs.any λa=>decide (a.1=k))=true then kvs.map (λa=>if a.1=k then(a.1,v)else a)else kvs ++ [(k,v)]
theorem Q5{p:Z×V}{r:A0 (Z×V)}{k:Z}(e:p.1=k):X4 (p::r) k=some p.2:=by simp[X4,GD,e]
theorem Q4{p:Z×V}{r:A0 (Z×V)}{k:Z}(e:¬p.1=k):X4 (p::r) k=X4 r k:=by simp[X4,GD,e]
theorem o8(k:Z):∀kvs:A0 (Z×V),(kvs.any λa=>decide (a.1=k)) =(X4 kvs k).isSome
 | []=>rfl
 | p::r=>by
  rw[GI];by_cases e:p.1=k
  .simp only[Q5 e,AQ e,Bool.true_or,Option.isSome_some]
  .rw[Q4 e,AM e,Bool.false_or];exact o8 k r
theorem Mc(k j:Z)(y:V):∀kvs:A0 (Z×V),X4 (kvs.map λa=>if a.1=k then(a.1,y)else a) j =(X4 kvs j).map λx=>if j=k then y else x
 | []=>rfl
 | p::r=>by
  have b:=Mc k j y r;rw[BM];by_cases h:p.1=k
  .rw[AN h];by_cases e:p.1=j
   .rw[Q5 (p:=(p.1,y)) e,Q5 e,HE,AN (e.symm.trans h)]
   .rw[Q4 (p:=(p.1,y)) e,Q4 e,b]
  .rw[AI h];by_cases e:p.1=j
   .rw[Q5 (p:=p) e,Q5 e,HE,AI (λz=>h (e.trans z))]
   .rw[Q4 (p:=p) e,Q4 e,b]
theorem Ip(k j:Z)(y:V):∀kvs:A0 (Z×V),X4 kvs k=none->X4 (kvs ++ [(k,y)]) j=if j=k then some y else X4 kvs j
 | [],_=>by
  by_cases e:k=j
  .rw[AN e.symm];exact Q5 (p:=(k,y)) e
  .rw[AI (λz=>e z.symm)];exact Q4 (p:=(k,y)) e
 | p::r,a=>by
  rw[List.cons_append];have b:¬p.1=k:=λz=>by rw[Q5 z]at a;cases a
  rw[Q4 b]at a;have c:=Ip k j y r a;by_cases e:p.1=j
  .rw[Q5 e,Q5 e,AI (λz=>b (e.trans z))]
  .rw[Q4 e,Q4 e,c]
theorem Um(kvs:A0 (Z×V))(k j:Z)(y:V):X4 (Bd kvs k y) j=if j=k then some y else X4 kvs j:=by
 unfold Bd;by_cases a:(kvs.any λb=>decide (b.1=k))=true
 .rw[AN a,Mc];rw[o8]at a;by_cases e:j=k
  .obtain⟨x,c⟩:=FN.mp a;rw[AN e,e,c,HE,AN rfl]
  .rw[AI e];cases X4 kvs j with
   | none=>rfl
   | some x=>rw[HE,AI e]
 .rw[AI a];refine Ip k j y kvs ?_;rw[o8]at a;cases q:X4 kvs k with
  | none=>rfl
  | some x=>rw[q]at a;exact(a rfl).elim
theorem V4(kvs:A0 (Z×V))(k:Z)(v:V):(Bd kvs k v).length<=kvs.length+1:=by
 unfold Bd;split
 .rw[AB];lia
 .rw[AV,BR,List.length_nil];lia
theorem Md{kvs:A0 (Z×V)}{k:Z}(v:V)(h:X4 kvs k=none):Bd kvs k v=kvs ++ [(k,v)]:=by
 unfold Bd;rw[o8,h];exact AI (by decide)
theorem Lr.isSome_eq{o:A5 V}{u:A5 A2}(r:Lr o u):o.isSome=u.isSome:=by
 cases o with
 | none=>cases u with
  | none=>rfl
  | some _=>exact(show False from r).elim
 | some _=>cases u with
  | none=>exact(show False from r).elim
  | some _=>rfl
theorem Lr.getD{o:A5 V}{u:A5 A2}{d:V}{d':A2}(r:Lr o u)(a:RelV d d'):RelV (o.getD d) (u.getD d'):=by
 cases o with
 | none=>cases u with
  | none=>exact a
  | some _=>exact(show False from r).elim
 | some _=>cases u with
  | none=>exact(show False from r).elim
  | some _=>exact r
theorem KV.val{kvs:A0 (Z×V)}{vs:A0 (Z×A2)}(r:KV kvs vs)(k:Z):Lr (X4 kvs k) (valueAt vs k):=by
 unfold KV at r
 induction r with
 | nil=>exact VC
 | @cons p q ps a h t f =>
  obtain⟨d,g⟩:=h;by_cases e:p.1=k
  .have c:q.1=k:=d.symm.trans e;have b:valueAt (q::a) k=some q.2:=by simp[valueAt,GD,c]
   rw[Q5 e,b];exact g
  .have c:¬q.1=k:=λz=>e (d.trans z);have b:valueAt (q::a) k=valueAt a k:=by simp[valueAt,GD,c]
   rw[Q4 e,b];exact f
theorem KV.any{kvs:A0 (Z×V)}{vs:A0 (Z×A2)}(r:KV kvs vs)(k:Z):(kvs.any λa=>decide (a.1=k))=vs.any λa=>decide (a.1=k):=by
 unfold KV at r
 induction r with
 | nil=>rfl
 | cons h t b=>rw[GI,GI,b,h.1]
theorem KV.repl{kvs:A0 (Z×V)}{vs:A0 (Z×A2)}(r:KV kvs vs)(k:Z){y:V}{u:A2}(c:RelV y u) :
  KV (kvs.map λa=>if a.1=k then(a.1,y)else a) (vs.map λa=>if a.1=k then(a.1,u)else a):=by
 unfold KV at r⊢
 induction r with
 | nil=>exact .nil
 | @cons p q ps g h t d =>
  rw[BM,BM];refine .cons ?_ d;obtain⟨b,f⟩:=h;by_cases e:p.1=k
  .rw[AN e,AN (b.symm.trans e)];exact⟨b,c⟩
  .rw[AI e,AI (λz=>e (b.trans z))];exact⟨b,f⟩
theorem KV.put{kvs:A0 (Z×V)}{vs:A0 (Z×A2)}(r:KV kvs vs)(k:Z){y:V}{u:A2}(a:RelV y u):KV (Bd kvs k y) (stored vs k u):=by
 unfold Bd stored;rw[r.any k];by_cases e:(vs.any λb=>decide (b.1=k))=true
 .rw[AN e,AN e];exact r.repl k a
 .rw[AI e,AI e];exact Paired.snoc r ⟨rfl,a⟩
theorem KV.length{kvs:A0 (Z×V)}{vs:A0 (Z×A2)}(r:KV kvs vs):kvs.length=vs.length:=Paired.length r
end
def Hb{P:HX}{w:HZ}{k:IS}{u:A2}(r:RelV (kV k) u):(C8 P w).is k u=true:=by
 cases k with
 | inl i=>obtain⟨t,e⟩:=(show ∃t,u=Value.int i t from r);subst e;exact Ku P w i t
 | inr x=>obtain⟨t,e⟩:=(show ∃t,u=Value.str x t from r);subst e;exact Jk P w x t
def Hh{P:HX}{w:HZ}:∀{a:A0 IS} {us:A0 A2},IJ (a.map kV) us->ItemsAre (C8 P w) a us
 | [],_,r=>by rw[FZ]at r;cases r;exact .nil
 | k::a,_,r=>by
  rw[BM]at r;cases r with
  | cons h t=>exact .cons (Hb h) (Hh t)
abbrev KT(H:Hp):A0 (A0 IS×V)->A0 (A0 IS×A3×A2)->Prop:=Paired λp q=>p.1=q.1/\H q.2.1=some (.tup (p.1.map kV))/\RelV p.2 q.2.2
def KT.val{H:Hp}{kvs:A0 (A0 IS×V)}{xs:A0 (A0 IS×A3×A2)}(r:KT H kvs xs)(k:A0 IS):Lr (X4 kvs k) ((atKey xs k).map (·.2)):=by
 induction r with
 | nil=>exact VC
 | @cons p q ps a h t f =>
  obtain⟨d,_,g⟩:=h;by_cases e:p.1=k
  .have c:q.1=k:=d.symm.trans e;have b:atKey (q::a) k=some q.2:=by simp[atKey,GD,c]
   rw[Q5 e,b];exact g
  .have c:¬q.1=k:=λz=>e (d.trans z);have b:atKey (q::a) k=atKey a k:=by simp[atKey,GD,c]
   rw[Q4 e,b];exact f
section
variable{P:HX}{w:HZ}{H:Hp}{h:IC}{a:A3}
theorem zCm{u:HO}(b:M_ P w H h)(e:Rd H a u):IU P w H h a u:=e.ok b
theorem Pc{kvs:A0 (IS×V)}(b:M_ P w H h)(e:Rd H a (.dK kvs)):kvs.length<=sizeLine/\(a == sysModules)=false/\∃vs,KV kvs vs/\h.DictOf (C8 P w) a vs :=
 show IU P w H h a (.dK kvs)from zCm b e
theorem Uq{kvs:A0 (IS×V)}(b:M_ P w H h)(e:H a=some (.dK kvs)):kvs.length<=sizeLine/\(a == sysModules)=false/\∃vs,KV kvs vs/\h.DictOf (C8 P w) a vs:=Pc b (.inl e)
theorem Ah{b:A0 IS}(d:M_ P w H h)(e:H a=some (.tup (b.map kV))):(tupleKind (C8 P w)).is h b a:=by
 obtain⟨_,c,r,o,f,g,n,i⟩:=(show IU P w H h a (.tup (b.map kV))from d a _ e);exact⟨o,c.toArray,n,f,g,i,by simpa using Hh r⟩
theorem Sg{kvs:A0 (A0 IS×V)}(c:M_ P w H h)(e:Rd H a (.dT kvs)):kvs.length<=sizeLine/\(a == sysModules)=false /\
  ∃xs,KT H kvs xs/\h.DictOfH (tupleKind (C8 P w)) a xs:=by
 obtain⟨z,y,xs,r,o,f,g,i,j,k,n,s⟩:=(show IU P w H h a (.dT kvs)from zCm c e);refine⟨z,y,xs,r,o,f,g,i,j,k,n,λx hx=>?_,s⟩;have b:∀{l:A0 (A0 IS×V)} {m:A0 (A0 IS×A3×A2)},KT H l m->∀x∈m,(tupleKind (C8 P w)).is h x.1 x.2.1:=by
  intro l m q
  induction q with
  | nil=>intro x hx;exact nomatch hx
  | @cons p q ps v d t u =>
   intro x hx;rcases AU.mp hx with e | hx
   .subst e;exact Ah c (by rw[<-d.1];exact d.2.1)
   .exact u x hx
 exact b r x hx
end
def LJ(H:Hp)(a:A3)(y:V)(r:A5 V):Prop :=
 (∃c k,Rd H a (.dK c)/\y=kV k/\r=X4 c k)\/∃c k b,Rd H a (.dT c)/\y = .ref b/\H b=some (.tup (k.map kV))/\r=X4 c k
def LJ.k{H:Hp}{a:A3}{kvs:A0 (IS×V)}{k:IS}(e:H a=some (.dK kvs)):LJ H a (kV k) (X4 kvs k):=.inl ⟨kvs,k,.inl e,rfl,rfl⟩
section
variable{X:Cx}{pins:A0 (A3×Obj)}{σ:St}{H:Hp}{s:A4}{a:A3}{y v:V}{u r:A2}{o:A5 V}{A:IE}{E:A2->A4->Prop}
theorem Inv.big(I:Inv X pins σ H s):sysModules<s.heap.objs.size:=by
 have h:mainGlobals<s.heap.objs.size:=(I.mod.glob.keeps I.bk).lt;exact Nat.lt_trans (by decide) h
theorem Qg{Q:A2->A4->Prop}(x:A.units+1<cLine)(I:Inv X pins σ H s)(g:LJ H a y (some v))(r:RelV y u)(h:∀f t,Inv X pins σ H t->RelV v f->Q f t) :
  wpAny (model X.prog X.w) A (getItem (.ref a) u) Q E s:=by
 rcases g with⟨i,k,e,j,l⟩ | ⟨i,k,b,e,j,B,l⟩
 .subst j;obtain⟨z,C,D,c,m⟩:=Pc I.hok e;obtain⟨f,n,d⟩:=Lr.some_of (v:=v) (o:=valueAt D k) (by rw[l];exact c.val k);exact wpAny_getItem_of (Hb r) m.mapOf n (h f _ (I.tok _) d)
 .subst j;cases(show u=Value.ref b from r);obtain⟨z,C,F,c,m⟩:=Sg I.hok e;obtain⟨f,n,d⟩:=Lr.some_of (v:=v) (o:=(atKey F k).map (·.2)) (by rw[l];exact c.val k);obtain⟨p,G,q⟩:=BF.mp n;refine wpAny_getItem_heap (tupleKind_room_in1 x) (Ah I.hok B) m G ?_;rw[q];exact h f _ (I.tok _) d
theorem Ys{Q:A2->A4->Prop}(p:A.units+1<cLine)(I:Inv X pins σ H s)(g:LJ H a y o)(m:RelV y u)(h:∀n,Inv X pins σ H n->Q (.bool (!o.isSome)) n) :
  wpAny (model X.prog X.w) A (compareOp .NotIn u (.ref a)) Q E s:=by
 rcases g with⟨d,k,e,f,l⟩ | ⟨d,k,b,e,f,r,l⟩
 .subst f;obtain⟨z,i,t,c,j⟩:=Pc I.hok e;refine wpAny_notIn_of (Hb m) i j.mapOf ?_;rw[<-(c.val k).isSome_eq,<-l];exact h _ (I.tok _)
 .subst f;cases(show u=Value.ref b from m);obtain⟨z,i,v,c,j⟩:=Sg I.hok e;refine wpAny_notIn_heap (tupleKind_room_in1 p) (Ah I.hok r) i j ?_;have q:=(c.val k).isSome_eq;rw[Option.isSome_map]at q;rw[<-q,<-l];exact h _ (I.tok _)
theorem Qp{h':IC}{t':Nat}{c:HO}(I:Inv X pins σ H s)(f:TW (H a))(g:Heap.SameBut a s.heap h')(h:∃q,h'.get? a=some q)(d:IU X.prog X.w (H_ H a c) h' a c) :
  Inv X pins σ (H_ H a c) { s with heap:=h',toks:=t' } :=
 I.write (x:=a) (e:=a) f (.inl rfl) (λb q i z=>(g.2 b i).trans z) h d
theorem Mu{P:HX}{w:HZ}{H':Hp}{h':IC}{kvs:A0 (IS×V)}{vs:A0 (IS×A2)}(z:kvs.length<=sizeLine)(c:(a == sysModules)=false)(b:KV kvs vs)(d:h'.DictOf (C8 P w) a vs) :
  IU P w H' h' a (.dK kvs):=⟨z,c,vs,b,d⟩
end
def zHn(i:IG):Prop:=∀a b,subscripted i false a b=operate [a,b] (getItem a b)
def Zy{prog:HX}{w:HZ}{A:IE}{E:A2->A4->Prop}{s:A4}{c:QY}{b a:IG}{e:Pos}{T id:String}{Q:A2->A4->Prop}
  (g:typeLookup (.type T) "__getitem__" = pure (some (.builtin id))) (j:zHn a)
  (h:wpAny (model prog w) A (eval b c) (λo i1=>wpAny (model prog w) A (eval a c) (λi n0=>n0.TypeIs o T/\wpAny (model prog w) A (getItem o i) Q E n0) E i1) E s) :
  wpAny (model prog w) A (eval (.Subscript b a e) c) Q E s:=by
 refine Subscript_ (B_ h (λo i1 q0=>B_ q0 (λi n0 h₂=>?_) λ_ _ x=>x) λ_ _ x=>x);obtain⟨f,h₂⟩:=h₂;unfold subscriptTail;refine AA ?_;rw[getitemInPython_of_ne f.not_modules];refine AA (GE f g ?_);have d:wpAny (model prog w) A (subscripted a false o i) (λr s₃=>wpAny (model prog w) A (letTemporaryGo b o r >>= λ_=>pure r) Q E s₃) E n0:=by
  rw[j o i];exact wpAny_operating (B_ h₂ (λr s₃ h₃=>AA (wpAny_letTemporaryGo (AD h₃))) λ_ _ x=>x)
 first
  | exact AD (AA d)
  | exact AA (AD (AA d))
  | exact AA d
def Kw{X:Cx}{c:A0 (A3×Obj)}{σ:St}{H:Hp}{s:A4}{a:A3}{y:V}{o:A5 V}(I:Inv X c σ H s)(g:LJ H a y o):s.TypeIs (.ref a) "dict":=by
 rcases g with⟨d,k,e,_,_⟩ | ⟨d,k,b,e,_,_,_⟩
 .obtain⟨_,_,h,_,f⟩:=Pc I.hok e;exact f.typeIs
 .obtain⟨_,_,i,_,f⟩:=Sg I.hok e;exact f.typeIs
def zCx(c ty:TE):TE:=λσ H Q=>c σ H λx d=>ty σ d λy b=>∃a v,x = .ref a/\LJ b a y (some v)/\Q v b
def zBb(ty c:TE):TE:=λσ H Q=>ty σ H λy d=>c σ d λx b=>∃a o,x = .ref a/\LJ b a y o/\Q (.bl (!o.isSome)) b
section
variable{X:Cx}{o i e value:IG}{pos pos' tpos:Pos}{td ty tv:TE}
theorem X9(e:X.A.units+1<cLine)(f:PE X o td)(hi:PE X i ty)(j:zHn i):PE X (.Subscript o i pos) (zCx td ty):=by
 intro b s σ H Q I h;refine Zy PySem.F.slot_dict_getitem.lookup j (JB (f b s σ H _ I h) λu k ⟨x,l,m,n,p⟩=>JB (hi b k σ l _ m p) λB C ⟨y,q,d,r,a,v,t,g,w⟩=>?_);subst t;obtain rfl:u=Value.ref a:=n;exact⟨Kw d g,Qg e d g r λD E z c=>⟨v,q,z,c,w⟩⟩
theorem Te(c:X.A.units+1<cLine)(hi:PE X i ty)(d:PE X o td):PC X .NotIn i o (zBb ty td):=by
 intro b s σ H Q I h;refine JB (hi b s σ H _ I h) λw e ⟨y,f,j,k,l⟩=>JB (d b e σ f _ j l) λu z ⟨x,m,n,p,a,q,r,g,t⟩=>?_;subst r;obtain rfl:u=Value.ref a:=p;exact Ys c n g k λB v=>⟨.bl (!q.isSome),m,v,rfl,t⟩
end
def Ew{P:HX}{w:HZ}{H:Hp}(h:IC)(a:sysModules<h.objs.size):IU P w H (h.push { cls:=.type "dict",data:=.dict #[] }) h.objs.size (.dK []) :=
 ⟨CB _,beq_eq_false_iff_ne.mpr (Ne.symm (BA a)),[],.nil,Heap.DictOf.new h⟩
def zEz:TE:=λ_ H Q=>∀p,H p=none->Q (.ref p) (H_ H p (.dK []))
section
variable{X:Cx}{pos:Pos}
theorem Wi:PE X (.Dict [] [] pos) zEz:=λb s σ H Q I h =>
 wpAny_Dict_empty ⟨.ref s.heap.objs.size,_,I.laid (a:=s.heap.objs.size) (o:=.dK []) (t':=s.toks) (λ_ _ q=>AC _ q) (VD _) (Ew s.heap I.big),rfl,h _ (I.hok.fresh (VD _))⟩
end
structure M1(X:Cx)(o:IG)(m:Str)(apos:Pos)(e:IG)(cpos:Pos):Prop where
 base:attributeBase o m X.env (eval o X.env)=eval o X.env
 few:((backTo cpos (starEach [e] X.env)).all (λx=>!x.1) &&(backToKw cpos (keywordEach [] X.env)).all (λx=>x.1.isSome)
  && decide (([e]:A0 IG).length +([]:A0 Keyword).length +(if([]:A0 Keyword).isEmpty then 0 else 1)<30))=true
 line:(apos.endLine == cpos.line)=true
 trees:backTo cpos (starEach [e] X.env) = [(false,eval e X.env)]
def IsD(H:Hp)(a:A3):Prop:=(∃b,Rd H a (.dK b))\/∃b,Rd H a (.dT b)
def Ya{X:Cx}{f:A0 (A3×Obj)}{σ:St}{H:Hp}{s:A4}{a:A3}(I:Inv X f σ H s)(d:IsD H a) :
  s.TypeIs (.ref a) "dict"/\(∀b,Value.ref a = .ref b->∃c,s.heap.get? b=some c/\c.dict=none)/\(a == sysModules)=false:=by
 rcases d with⟨h,e⟩ | ⟨h,e⟩
 .obtain⟨_,i,l,_,g⟩:=Pc I.hok e;refine⟨g.typeIs,λb q=>?_,i⟩;cases q;obtain⟨c,_,_,j,k,_⟩:=g;exact⟨c,j,k.2.1⟩
 .obtain⟨_,i,m,_,g⟩:=Sg I.hok e;refine⟨g.typeIs,λb q=>?_,i⟩;cases q;obtain⟨c,_,_,j,k,_⟩:=g;exact⟨c,j,k.2.1⟩
section
variable{X:Cx}{pins:A0 (A3×Obj)}{σ:St}{H:Hp}{s:A4}{a:A3}{y d:V}{u r:A2}{o:A5 V}{A:IE}{E:A2->A4->Prop}
theorem zCd{Q:A2->A4->Prop}(q:A.units+1<cLine)(I:Inv X pins σ H s)(g:LJ H a y o)(m:RelV y u)(h:∀n p,Inv X pins σ H p->RelV (o.getD .non) n->Q n p) :
  wpAny (model X.prog X.w) A (call (.builtin "dict.get") [.ref a,u]) Q E s:=by
 rcases g with⟨f,k,e,i,l⟩ | ⟨f,k,b,e,i,r,l⟩
 .subst i;obtain⟨z,j,v,c,d⟩:=Pc I.hok e;refine call_meetsIn PySem.F.slot_dict_get d.typeIs PySem.F.entry_dict_get (PySem.F.args_dict_get_2 _ _) (meets_dict_get (C8 X.prog X.w) a (Hb m) j) ⟨_,d.mapOf,h _ _ (I.tok _) ?_⟩;rw[l];exact(c.val k).getD rfl
 .subst i;cases(show u=Value.ref b from m);obtain⟨z,j,t,c,d⟩:=Sg I.hok e;refine call_meetsIn PySem.F.slot_dict_get d.typeIs PySem.F.entry_dict_get (PySem.F.args_dict_get_2 _ _) (meetsH_dict_get (tupleKind (C8 X.prog X.w)) a b j) ⟨tupleKind_room_in1 q,k,t,Ah I.hok r,d,h _ _ (I.tok _) ?_⟩;rw[l];exact(c.val k).getD rfl
end
def Lx(d ty:TE):TE:=λσ H Q=>d σ H λx b=>∃a,x = .ref a/\IsD b a/\ty σ b λy c=>∃o,LJ c a y o/\Q (o.getD .non) c
section
variable{X:Cx}{o e f:IG}{apos cpos:Pos}{td ty tx:TE}
theorem Y9(i:X.A.units+1<cLine)(j:PE X o td)(k:PE X e ty)(m:M1 X o "get" apos e cpos):PE X (.Call (.Attribute o "get" apos) [e] [] cpos) (Lx td ty):=by
 intro b s σ H Q I h;refine wpAny_Call_method m.base m.few m.line PySem.F.plainAttrs_dict PySem.F.slot_dict_get PySem.F.type_dict_get (JB (j b s σ H _ I h) λu l ⟨x,n,f,p,a,q,d,r⟩=>?_);subst q;obtain rfl:u=Value.ref a:=p;obtain⟨t,v,_⟩:=Ya f d;refine⟨t,v,?_⟩;rw[m.trees];refine Calls.callWith_builtin rfl (Calls.evalArgs_plain (Calls.spliced_cons (JB (k b l σ n _ f r) λE G ⟨y,w,z,B,J,g,C⟩=>Calls.spliced_nil ?_)));exact zCd i z g B λK L D c=>⟨_,w,D,c,C⟩
end
end L2
namespace Att
open PySem PySem.W PySem.Calls PyProof.Rows
def Bs{P:Params}{h:IC}:∀(ns:A0 Int) (vs:A0 A2),WellAll P h vs (ns.map WData.int)->IntsAre vs ns:=by
 intro ns
 induction ns with
 | nil =>
  intro vs w;rw[FZ]at w;cases w;exact .nil
 | cons n ns c =>
  intro vs w;rw[BM]at w;cases w with
  | cons a b =>
   cases a;exact .cons _ _ (c _ b)
def Pj{l:OpenLaw}{n:Nat}(o:l.most=some n){P:Params}{h:IC}{args:A0 WData}{b:A0 A2}
  (c:l.row.toRowW.claim.pre args=true) (j:WellAll P h b args) :
  ∃a vs ns,b = [Value.ref a]/\args = [WData.list (ns.map WData.int)]/\h.get? a=some { cls:=.type "list",data:=.seq vs.toArray }/\IntsAre vs ns/\ns.length<=n:=by
 have k:WShape.hasAll [] args [.list .int]=true:=(pre_splitW c).1;have m:l.pre.holds [] { args:=args }=true:=(pre_splitW c).2;obtain⟨d,r,rfl,p,s⟩:=hasAllW_cons k;obtain rfl:=hasAllW_nil s;obtain⟨y,rfl,t⟩:=hasW_list p;obtain⟨ns,rfl⟩:=items_int t;have e:ns.length<=n:=by
  unfold OpenLaw.pre at m;have g:(WTm.not (.lt (.lit (.int (n:Int))) (.len (.arg 0)))).holds [] { args:=[.list (ns.map .int)] }=true:=by
   have g:=(holds_andW m).1;rw[o]at g;exact g
  have i:=condW_of g (w_not (w_lt w_lit (w_len_list (w_arg rfl))));rw[AB]at i;refine Nat.le_of_not_lt λq=>?_;have u:(n:Int) <((ns.length:Nat):Int):=by lia
  first
   | (rw[AQ u]at i;exact absurd i (by decide))
   | (simp at i;lia)
 cases j with
 | cons v w =>
  cases w;cases v with
  | list x f=>exact⟨_,_,ns,rfl,rfl,x,Bs ns _ f,e⟩
def Ru(l:OpenLaw)(args:A0 WData):l.row.toRowW.claim.post args (.bool true) args=true :=
 postW_of (r:=l.row.toRowW) (X:=(true == true))
  (show WShape.has [] (.bool true) .bool=true by first | rfl | decide | simp[WShape.has,WShape.arms,WShape.armsAll])
  (show(WTm.eq .res (.lit (.bool true))).value [] { args:=args,res:=some (.bool true),after:=args }=some (.bool (true == true))from w_eq_bool (w_res rfl) w_lit) rfl
def P_{l:OpenLaw}{n:Nat}{q:HX}{b:A0 Str}{A:(Str->A5 A2)->IC->Prop}{B:HZ->IC->Prop}{d:DefRec}
  (F:l.most=some n) (t:d.params.defaults = [])
  (call:∀(w:HZ) (s₀ i1:A4) (k u:Str->A5 A2) (g:A3) (o:Obj) (v m c:A2) (a:A3) (vs:A0 A2) (ns:A0 Int),
   Ground q b [] A w s₀ k u i1.heap->B w i1.heap ->
   i1.heap.get? g=some o->o.data = .func (docDef d.name d.params d.body d.scope v m c)->i1.heap.CodeRec m d.name->k d.name=some (.ref g) ->
   i1.heap.get? a=some { cls:=.type "list",data:=.seq vs.toArray }->IntsAre vs ns->ns.length<=n->i1.gens = #[] ->
   codeAny (model l.prog w) callerA (.call (.ref g) ⟨[.ref a],[]⟩) (λr p=>r = .ok (.ret (.bool true))/\OldK i1.heap p.heap/\p.os=i1.os/\AllBare p.gens) i1) :
  WalkO q b A B l.row.toRowW d [] (λf vs=>PySem.call f vs):=by
 intro w s₀ i1 k u G Y g o v m c H kV I J x C y K args D S h E L z M;obtain rfl:H = .none:=Dflts.none C t;obtain rfl:kV = .none:=Dflts.noKw C;obtain⟨a,vs,ns,rfl,rfl,i,e,j⟩:=Pj F h z;refine enter_call (FK (call w s₀ i1 k u g o v m c a vs ns G Y I (fd_plain J) x y i e j K) λr p N=>?_);obtain⟨rfl,O,P,Q⟩:=N;exact⟨.inl ⟨.bool true,.bool true,[],rfl,λ_=>rfl,.bool true,Ru l _,λ_=>⟨List.Pairwise.nil,λ_ R=>(nomatch R)⟩⟩,O,P,Q⟩
end Att
namespace L2
open PySem PySem.Spec PyProof.Rows
def Gp:∀{vs:A0 A2} {ns:A0 Int},IntsAre vs ns->IJ (ns.map V.int) vs
 | _,_,.nil=>.nil
 | _,_,.cons n t h=>.cons ⟨t,rfl⟩ (Gp h)
def zFx(H:Hp):Prop:=∀b,H b=none\/∃o a,H b=some (.frz o (.lst a))
def Wd{P:HX}{w:HZ}{K:VA}{t N:Str->A5 A2}{CX:QZ}{k:Nat}{O a:A3}{Y:IW}{x:Str}{sp:Sp}{i1:A4}{vs:A0 A2}{ns:A0 Int}
  (Z:K.In i1.heap) (y:i1.heap.Ns mainGlobals t) (f:i1.heap.Ns builtinsNs N) (Q:∀x:Str,x≠ "__name__"->N x=bootBuiltins x) (A:i1.heap.NoLimit) (hg:i1.gens = #[])
  (M:i1.heap.get? a=some { cls:=.type "list",data:=.seq vs.toArray }) (hi:IntsAre vs ns) (hl:ns.length<=sizeLine) (hr:JV k callerA)
  (F:∀g:IC,K.In g->g.Ns mainGlobals t->IM P w K t g CX k O Y [x] sp) (p:∀(s:A4) (u:A2),BindsTo s Y ⟨[u],[]⟩ [(x,u)])
  (R:∀H:Hp,zFx H->II K H a (ns.map V.int)->sp [.ref a] H (λv _=>v = .bl true) λ_ _ _=>False)
  (S:∀H e i,CX [] H i1 (λ_ _ _=>False) e i->False) :
  codeAny (model P w) callerA (.call (.ref O) ⟨[.ref a],[]⟩) (λr i=>r = .ok (.ret (.bool true))/\OldK i1.heap i.heap/\i.os=i1.os/\AllBare i.gens) i1:=by
 have rv:=Gp hi;have B:=hi.length;have l:∀H:Hp,zFx H->II K H a (ns.map V.int)->M_ P w H i1.heap->(∀b,H b≠none->b=a)->(H a≠none->K.lookup a=none) ->
   codeAny (model P w) callerA (.call (.ref O) ⟨[.ref a],[]⟩) (λr i=>r = .ok (.ret (.bool true))/\OldK i1.heap i.heap/\i.os=i1.os/\AllBare i.gens) i1:=by
  intro H hO hS C hA hK;have c:∀{b:A3} {o:Obj},i1.heap.get? b=some o->H b=none->(Wu i1.heap H).get? b=some o:=λe n=>Wp e n;have T:∀{b:A3} {o:Obj} {D:HW DictEntry} {E:Nat},i1.heap.get? b=some o->o.data = .dict D E->H b=none:=fun{b o D E} e d=>by
   cases q:H b with
   | none=>rfl
   | some u =>
    have U:b=a:=hA b (by rw[q];simp);subst U;rw[M]at e;cases e;have d':Data.seq vs.toArray _=Data.dict D E:=d;cases d'
  have j:∀{b:A3} {m:Str->A5 A2},i1.heap.Ns b m->(Wu i1.heap H).Ns b m:=fun{b m} ⟨o,D,E,e,d,r⟩=>⟨o,D,E,c e (T e d),d,r⟩;have G:K.In (Wu i1.heap H):=λb o e=>c (Z b o e) (by
   cases q:H b with
   | none=>rfl
   | some u =>
    have U:b=a:=hA b (by rw[q];simp);subst U;rw[hK (by rw[q];simp)]at e;cases e)
  have hM:Mod K t (Wu i1.heap H):=⟨G,j y,⟨N,j f,Q⟩,let⟨mc,h1,h2⟩:=A;⟨mc,j h1,h2⟩⟩;have e0:QN P w K t (Wu i1.heap H) callerA [] i1 H:=⟨rfl,hM,λb o e=>Zz e,VF (Th _ _),trivial,λb f=>absurd (show b∈([]:A0 A3)from f) (by simp),C,.of_eq hg⟩;refine FK ((F _ G (j y)).run callerA [] i1 H ⟨[.ref a],[]⟩ [.ref a] [.ref a] _ _ hr e0 (p i1 (.ref a)) (.cons rfl .nil) (R H hO hS)) λr i h=>?_;cases r with
  | error e=>exact(S H e i h).elim
  | ok fl =>
   cases fl with
   | next=>exact VB h
   | brk=>exact VB h
   | cont=>exact VB h
   | ret u =>
    obtain⟨v,H',os,I,un,J,r',q⟩:=h;have q':v = .bl true:=q;subst q';obtain rfl:u=Value.bool true:=r';refine⟨rfl,OldK.of_keep λb o e=>?_,os,I⟩;cases q:H b with
    | none=>exact un.keep b o e q (by intro z;exact absurd (show b∈([]:A0 A3)from z) (by simp)) (by simp)
    | some u =>
     rcases hO b with z | ⟨ob,xs,z⟩
     .rw[q]at z;cases z
     .have z2:=un.frzs b ob _ z;obtain⟨e1,_⟩:=C b _ z;obtain⟨e2,_⟩:=J b _ z2;rw[e]at e1;cases e1;exact e2
 cases X:K.lookup a with
 | some o =>
  have e:=Z a o X;rw[M]at e;cases e;refine l (λ_=>none) (λ_=>.inl rfl) (.inr ⟨_,vs.toArray,_,X,rfl,rfl,rfl,by rw[AR,B];exact hl,by simpa using rv⟩) (λb u z=>by have L:(none:A5 HO)=some u:=z;cases L) (λb z=>absurd rfl z) λz=>absurd rfl z
 | none =>
  refine l (λb=>if b=a then some (.frz { cls:=.type "list",data:=.seq vs.toArray } (.lst (ns.map V.int)))else none) (λb=>?_) (.inl (.inr ⟨{ cls:=.type "list",data:=.seq vs.toArray },AN rfl⟩)) (λb u z=>?_) (λb z=>?_) λ_=>X
  .by_cases f:b=a
   .exact .inr ⟨_,_,AN f⟩
   .exact .inl (AI f)
  .by_cases f:b=a
   .have L:=(AN f).symm.trans z;cases L;subst f;exact⟨M,by rw[AB];exact hl,vs,_,rv,M⟩
   .have L:=(AI f).symm.trans z;cases L
  .by_cases f:b=a
   .exact f
   .exact absurd (AI f) z
def RN{l:PySem.W.OpenLaw}{n k:Nat}{q:HX}{j:A0 Str}{L:(Str->A5 A2)->IC->Prop}{I:HZ->IC->Prop}{d:DefRec}{K:Params->VA}{CX:HZ->QZ}{sp:HZ->Sp}{x:Str}
  (M:l.most=some n) (y:n<=sizeLine) (z:d.params.defaults = []) (N:JV k callerA)
  (O:∀(w:HZ) (h:IC),I w h->(K w.params).In h)
  (F:∀(w:HZ) (p:Str->A5 A2) (t:A3) (h:IC),(K w.params).In h->h.Ns mainGlobals p->p d.name=some (.ref t) ->
   ∃A:IW,(∀(s:A4) (u:A2),BindsTo s A ⟨[u],[]⟩ [(x,u)]) /\
    ∀c:IC,(K w.params).In c->c.Ns mainGlobals p->IM l.prog w (K w.params) p c (CX w) k t A [x] (sp w))
  (B:∀(w:HZ) (H:Hp) (a:A3) (ns:A0 Int),ns.length<=n->zFx H->II (K w.params) H a (ns.map V.int)->sp w [.ref a] H (λv _=>v = .bl true) λ_ _ _=>False)
  (C:∀(w:HZ) (H:Hp) (s:A4) (e:A2) (D:A4),CX w [] H s (λ_ _ _=>False) e D->False) :
  PySem.W.WalkO q j L I l.row.toRowW d [] (λf vs=>PySem.call f vs):=by
 refine Att.P_ M z λw s₀ i1 p mb t o pm cd P a vs ns G Y ho hd Q E r m i R=>?_;have J:=O w _ Y;obtain⟨A,S,U⟩:=F w p t _ J G.T.g E;exact Wd J G.T.g G.T.b G.T.builtins G.T.nolimit R r m (VE i y) N U S (λH X Z=>B w H a ns i X Z) λH e D=>C w H i1 e D
def J9(s:IP)(j:Nat):IP:=match s with
 | .ClassDef _ _ _ a _ _ _ _ _ _ _=>a.getD j (.Pass ⟨0,0,0,0⟩)
 | _=>.Pass ⟨0,0,0,0⟩
def U1(s:IP):Arguments:=match s with
 | .FunctionDef _ a _ _ _ _ _ _ _ _=>a
 | _=>{ posonlyargs:=[],args:=[],vararg:=none,kwonlyargs:=[],kw_defaults:=[],kwarg:=none,defaults:=[] }
def S3(s:IP):A0 IP:=match s with
 | .FunctionDef _ _ b _ _ _ _ _ _ _=>b
 | _=>[]
def B6(s:IP):KR:=match s with
 | .FunctionDef _ _ _ _ _ _ a _ _ _=>a
 | _=>{ kind:=.function,names:=[],isGenerator:=false,isCoroutine:=false }
abbrev JR:QZ:=λ_ _ _ _ _ _=>False
abbrev E0:XK:=λ_ _ _=>False
def J6{X:Cx}:Ct JR X E0:=λ_ _ _ _ _ _ _ h=>h.elim
structure PY(K:VA)(x qual:Str)(st:IP)(f:A3)(fd:IW):Prop where
 ex:∃(oc:A2) (od:A5 A3) (kV doc pm:A2) (an:A5 A3) (cdv ct:A2) (osl:HW (A5 A2)),
  fd=PySem.W.fnOf x qual (U1 st) (S3 st) (B6 st) .none kV doc pm an cdv ct/\K.lookup f=some ⟨oc,od,.func fd,osl⟩/\PySem.W.codeIn K cdv qual=true
 kp:PySem.W.keepIn K (.ref f)=true
section
variable{P:HX}{w:HZ}{K:VA}{mg:Str->A5 A2}{base:IC}
theorem PY.ok{x b:Str}{st:IP}{f:A3}{j:IW}{N ps:A0 Str}{k:Nat}{sp:Sp}(F:PY K x b st f j)(S:IB N ps (B6 st))(e:∀vs H Q E,sp vs H Q E->vs.length=ps.length)
  (d:∀(c:A2) (A:IE) (a:A0 QY) (s:A4) (H:Hp) (vs:A0 V) (Q:VK) (E:XK),JV k (A.deeper (envOfC b (B6 st) s.heap.objs.size f c))->sp vs H Q E ->
   ∃t,QK (Zg JR P w K mg base N b (B6 st) f c A a s H E).nox (S3 st) t/\t { nx:=λ_ H'=>Q .non H',rt:=Q } (Fa N vs) H):IM P w K mg base JR (k+1) f j ps sp:=by
 obtain⟨o,p,kV,l,r,u,c,v,m,rfl,lk,g⟩:=F.ex;refine zGp lk g S e λA a s H vs Q E n i=>?_;obtain⟨t,h,q⟩:=d c A a s H vs Q E n i;exact⟨t,h.nox,q⟩
theorem PY.binds{x a:Str}{st:IP}{f:A3}{g:IW}{ps:A0 Str}(F:PY K x a st f g)
  (h:∀(kV b d:A2) (e:A5 A3) (c ct:A2) (us:A0 A2),us.length=ps.length->bindArgs (PySem.W.fnOf x a (U1 st) (S3 st) (B6 st) .none kV b d e c ct) ⟨us,[]⟩=pure (ps.zip us)):Binds K g ps []:=by
 obtain⟨k,l,kV,b,d,e,c,ct,i,rfl,lk,j⟩:=F.ex;exact .all (h kV b d e c ct)
theorem KD{x a:Str}{st:IP}{f:A3}{i:A2}{j g:A5 A3}{e:HW (A5 A2)}{kV d h b ct:A2}(l:K.lookup f=some ⟨i,j,.func (PySem.W.fnOf x a (U1 st) (S3 st) (B6 st) .none kV d h g b ct),e⟩)
  (c:PySem.W.codeIn K b a=true) (k:PySem.W.keepIn K (.ref f)=true):PY K x a st f (PySem.W.fnOf x a (U1 st) (S3 st) (B6 st) .none kV d h g b ct):=⟨⟨i,j,kV,d,h,g,b,ct,e,rfl,l,c⟩,k⟩
end
def Q9{A:IE}{k:Nat}(a:JV k A):A.units+1<cLine:=Nat.lt_of_le_of_lt (EF (by decide:1<=64) _) a.units
section
variable{X:Cx}
theorem pv(i:Nat){x:Str}{a:Pos}(c:X.N[i]?=some x:=by rfl)(d:Vis X.env.scope x:=by first | exact Or.inl rfl | exact Or.inr (Or.inl rfl) | exact Or.inr (Or.inr rfl))(e:(x ==("__debug__":Str))=false:=by decide)
  (b:(x ==("__classdict__":Str))=false:=by decide):PE X (.Name x a) (V2 i):=zEh c d e b
def P1{A B:Prop}(h:B):if false=true then A else B:=by
 rw[AI BE];exact h
def X3{A B:Prop}(h:A):if true=true then A else B:=by
 rw[AN rfl];exact h
def Z7{c A B:Prop}[Decidable c](h1:c->A)(h2:¬c->B):if c then A else B:=by
 by_cases h:c
 .rw[AN h];exact h1 h
 .rw[AI h];exact h2 h
def C3(H H':Hp):Prop:=∀b o,H b=some o->H' b=some o
def C3.refl(H:Hp):C3 H H:=λ_ _ h=>h
def C3.trans{H d e:Hp}(a:C3 H d)(b:C3 d e):C3 H e:=λc o h=>b c o (a c o h)
def C3.free{H H':Hp}(e:C3 H H'){l:A3}(h:H' l=Option.none):H l=Option.none:=by
 cases q:H l with
 | none=>rfl
 | some o =>
  rw[e l o q]at h;cases h
section
variable{Z:Type}[DecidableEq Z]
theorem Qs{kvs:A0 (Z×V)}{k:Z}{v:V}(h:X4 kvs k=some v):k∈kvs.map (·.1):=by
 have q:(kvs.any λa=>decide (a.1=k))=true:=by
  rw[o8,h]
  all_goals rfl
 obtain⟨p,b,e⟩:=GU.mp q;exact BK.mpr ⟨p,b,BL e⟩
end
def LZ(X:Cx)(a:KR)(cl:A0 (Str×A3))(N':A0 Str)(b:A0 (A3×Obj))(ex:A0 A3)(c:A4)(d:Hp):Cx where
 prog:=X.prog
 w:=X.w
 K:=X.K
 mg:=X.mg
 base:=X.base
 A:=X.A
 N:=N'
 s₀:=c
 H₀:=d
 env:=compEnvC a cl c.heap.objs.size X.env
 outer:=X.stack
 stack:=X.stack
 ex:=ex
 fn:=λ_=>false
 calm:=X.calm
 pn:=X.pn++b
 xe:=λ_ _=>False
def OD(X:Cx)(a:KR)(cl:A0 (Str×A3)):A0 Str->A0 (A5 Nat)->Prop
 | [],[]=>True
 | _::N,none::c=>OD X a cl N c
 | x::N,some j::c=>(X.N[j]?=some x/\X.env.scope.names.lookup x=some .cell/\(relabel a X.env).names.lookup x=some .cell/\cl.lookup x=X.env.cells.lookup x)/\OD X a cl N c
 | _,_=>False
def QW(X:Cx):A0 (Str×A3)->Prop
 | []=>True
 | p::r=>X.env.cells.lookup p.1=some p.2/\QW X r
structure MN(X:Cx)(scope:KR)(cl:A0 (Str×A3))(N':A0 Str)(cap:A0 (A5 Nat)):Prop where
 kind:scope.kind = .function
 nocell:∀y∈scope.names,y.2≠ .cell
 loc:∀y∈scope.names,y.2 = .local->scope.names.lookup y.1=some .local
 clos:closureFor scope X.env=pure cl
 cin:QW X cl
 has:((relabel scope X.env).names.all λy=>!(y.2 == .cell||y.2 == .free)||(cl.lookup y.1).isSome)=true
 caps:OD X scope cl N' cap
def Yh(cap:A0 (A5 Nat))(σ:St):St:=cap.map λo=>o.bind λj=>(σ[j]?).join
def QW.get{X:Cx}:∀{cl:A0 (Str×A3)} {x:Str} {c:A3},QW X cl->cl.lookup x=some c->X.env.cells.lookup x=some c
 | [],_,_,_,h=>by simp at h
 | (y,d)::r,x,c,⟨a,b⟩,h=>by
  rw[List.lookup_cons]at h;cases e:x == y with
  | true =>
   rw[e]at h;cases h;rw[beq_iff_eq.mp e];exact a
  | false =>
   rw[e]at h;exact QW.get b h
def OD.len{X:Cx}{a:KR}{cl:A0 (Str×A3)}:∀{N:A0 Str} {cap:A0 (A5 Nat)},OD X a cl N cap->cap.length=N.length
 | [],[],_=>rfl
 | _::N,none::c,h=>by rw[BR,BR,OD.len (N:=N) (cap:=c) h]
 | _::N,some j::c,h=>by rw[BR,BR,OD.len h.2]
 | [],_::_,h=>h.elim
 | _::_,[],h=>h.elim
def OD.get{X:Cx}{a:KR}{cl:A0 (Str×A3)}{j:Nat}{x:Str}:∀{N:A0 Str} {cap:A0 (A5 Nat)} {i:Nat},OD X a cl N cap->N[i]?=some x->cap[i]?=some (some j) ->
  X.N[j]?=some x/\X.env.scope.names.lookup x=some .cell/\(relabel a X.env).names.lookup x=some .cell/\cl.lookup x=X.env.cells.lookup x
 | [],_,_,_,h,_=>by simp at h
 | _::_,[],_,_,_,h=>by simp at h
 | y::N,none::c,0,_,_,h=>by simp at h
 | y::N,none::c,i+1,h,b,d=>OD.get (N:=N) (cap:=c) (i:=i) h (by simpa using b) (by simpa using d)
 | y::N,some k::c,0,h,b,d=>by
  simp at b d;subst b;subst d;exact h.1
 | y::N,some k::c,i+1,h,b,d=>OD.get (N:=N) (cap:=c) (i:=i) h.2 (by simpa using b) (by simpa using d)
section
variable{X:Cx}{scope:KR}{cl:A0 (Str×A3)}{N':A0 Str}{cap:A0 (A5 Nat)}{pins:A0 (A3×Obj)}{σ:St}{H3:Hp}{s3:A4}{ex:A0 A3}
theorem Ei{p:OC->Bool}:∀{names:A0 (Str×OC)} {q:Str->OC->Bool} {x:Str} {k:OC},(names.all λy=>q y.1 y.2)=true->names.lookup x=some k->q x k=true
 | [],_,_,_,_,h=>by simp at h
 | (y,d)::r,q,x,k,a,h=>by
  rw[List.all_cons,CS]at a;rw[List.lookup_cons]at h;cases e:x == y with
  | true =>
   rw[e]at h;cases h;rw[beq_iff_eq.mp e];exact a.1
  | false =>
   rw[e]at h;exact Ei (p:=p) (names:=r) (q:=q) a.2 h
theorem Inv.block(I:Inv X pins σ H3 s3)(S:MN X scope cl N' cap)(hc:X.calm=true)(t:∀b∈ex,Dz X pins H3 b/\∃o,s3.heap.get? b=some o){h1:IC}{T:Nat}
  (G:h1.Ns s3.heap.objs.size (λ_=>none)) (B:∀b o,s3.heap.get? b=some o->h1.get? b=some o) :
  Inv (LZ X scope cl N' pins ex s3 H3) [] (Yh cap σ) H3 { s3 with heap:=h1,toks:=T }:=by
 have C:∀b o,s3.heap.get? b=some o->b≠s3.heap.objs.size:=λb o e=>BA (AG e);have w:∀x c,cl.lookup x=some c->∃v,s3.heap.IsCell c v:=λx c e=>I.cell x c (S.cin.get e);have A:H3 s3.heap.objs.size=none:=I.hok.fresh (VD _);refine⟨⟨I.ok.mod,?_,I.ok.glob,I.ok.blt,VD _,λx y c H g=>I.ok.inj x y c (S.cin.get H) (S.cin.get g),λx U=>?_,λx c h _=>absurd h BE,I.ok.hd,I.ok.frames,.inl rfl,λb D=>?_,I.bs,VE I.ok.bsz I.sz,λb o e D=>?_,λb D=>?_,I.stack,I.stkFree⟩,
  rfl,I.bare,Un.kept B,⟨_,G,λi x v H g e3=>?_⟩,λx c e=>?_,A,λx c e=>I.freeC x c (S.cin.get e),λp V=>?_,I.hok.kept B,?_⟩
 .exact S.kind
 .have q:∀k,(relabel scope X.env).names.lookup x=some k->(!(k == .cell||k == .free)||(cl.lookup x).isSome)=true:=λk e=>Ei (p:=λ_=>true) (q:=λa k=>!(k == .cell||k == .free)||(cl.lookup a).isSome) S.has e;have J:(relabel scope X.env).names.lookup x=some .cell\/(relabel scope X.env).names.lookup x=some .free:=U;have:(cl.lookup x).isSome=true:=by
   rcases J with e | e
   .exact q _ e
   .exact q _ e
  exact FN.mp this
 .obtain⟨⟨_,_,_,_,W,_⟩,o,e⟩:=t b D;exact⟨C b o e,λx c E=>W x c (S.cin.get E)⟩
 .obtain⟨⟨f0,P,Q,f3,_⟩,_⟩:=t b D;rcases f3 with f3 | f3
  .exact I.ok.noex b o e f3
  .have:=(I.ok.bs b o e).1;exact absurd (BI (AG this) f3) (DA _)
 .intro K;obtain⟨⟨_,P,Q,_⟩,_⟩:=t b D;rcases AU.mp (I.stkSub b K)with z | z
  .exact P z
  .exact Q z
 .unfold Yh at g;rw[AH]at g;cases E:cap[i]? with
  | none=>rw[E]at g;cases g
  | some o =>
   rw[E]at g;cases o with
   | none=>cases g
   | some j =>
    have f:(σ[j]?).join=some v:=BU g;obtain⟨Y,R,Z,c4⟩:=S.caps.get H E;have F:σ[j]?=some (some v):=by
     cases F:σ[j]? with
     | none=>rw[F]at f;cases f
     | some z=>rw[F]at f;cases z with
      | none=>cases f
      | some z=>cases f;rfl
    obtain⟨m,hn,hl⟩:=I.loc;obtain⟨u,r,l⟩:=hl j x v Y F (.inr (.inl R));refine⟨u,r,?_⟩;rcases l with⟨k,_⟩ | ⟨_,c,L,s⟩
    .have:X.env.scope.names.lookup x=some .local:=k;rw[R]at this;cases this
    .exact .inr ⟨.inl Z,c,c4.trans L,let⟨o,M,N⟩:=s;⟨o,B _ _ M,N⟩⟩
 .obtain⟨v,o,M,N⟩:=w x c e;exact⟨v,o,B _ _ M,N⟩
 .have O:p∈X.pn++pins:=by simpa [LZ] using V
  obtain⟨e,n,ne,nf,d⟩:=I.pin p O;refine⟨B _ _ e,n,C _ _ e,λK=>?_,d⟩;rcases AU.mp (I.stkSub p.1 K)with z | z
  .exact ne z
  .exact nf z
 .unfold Yh;rw[AB];exact S.caps.len
theorem Inv.unblock{σ':St}{H':Hp}{s':A4}{h':IC}(I:Inv X pins σ H3 s3)(g:∀b∈ex,Dz X pins H3 b)(J:Inv (LZ X scope cl N' pins ex s3 H3) [] σ' H' s')(f:Heap.SameBut s3.heap.objs.size s'.heap h') :
  Inv X pins σ H' { s' with heap:=h' }:=by
 have d:H' s3.heap.objs.size=none:=J.free;refine I.call' (ch:=ex) J.os ⟨λb o e n h a=>?_,λb o e n h a=>?_,λb o e n a=>?_,λb o e a=>?_,J.base.tups,J.base.frzs,J.base.tbls⟩ (λb j e=>?_) J.bare λb i=>?_
 .exact(f.2 b (BA (AG e))).trans (J.base.keep b o e n h a)
 .obtain⟨k,q⟩:=J.base.slot b o e n h a;exact⟨k,(f.2 b (BA (AG e))).trans q⟩
 .exact J.base.free b o e n a
 .obtain⟨l,q⟩:=J.base.there b o e a;exact⟨l,(f.2 b (BA (AG e))).trans q⟩
 .refine(J.hok b j e).stay (λc u m q=>(f.2 c ?_).trans q) (λ_ q=>q) λ_ _ q=>q;rintro rfl;rcases m with z | z
  .rw[<-z,d]at e;cases e
  .rw[d]at z;cases z
 .obtain⟨_,p,_,r,s,t⟩:=g b i;exact⟨r,p,s,t⟩
end
def Lv(e:IG)(d:Nat)(iter tg:IG)(ifs:A0 IG)(b:Sem Fin->Sem Fin)(g f:A2)(a:QY):Sem Fin:=do
 standAt iter.pos
 match <-pyNext g with
 | none=>pure (.done .next)
 | some v =>
  letOwnedTupleGo tg g v
  assign tg a v
  let mut h:=true
  for c in ifs do
   if h then h <-isTrue c a (eval c a)
  if h then b (again (.compLoop e d g f a))else again (.compLoop e d g f a)
def emL(a:IG)(b:A2)(c:QY)(k:Sem Fin):Sem Fin:=(do let _ <-call (.builtin "list.append") [b,<-eval a c]:Sem Unit) >>= λ_=>k
def emD(a b:IG)(D:A3)(c:QY)(k:Sem Fin):Sem Fin:=(do
   let d <-eval a c
   let e <-holding [d] (eval b c)
   standAt { a.pos with endLine:=b.pos.endLine,endCol:=b.pos.endCol }
   holding [d,e] (dictSet D d e):Sem Unit) >>= λ_=>k
def Dp(b tg iter:IG)(ifs:A0 IG)(a:KR)(e:Pos)(f c:A2)(d:QY) :
  compTurn (.ListComp b [⟨tg,iter,ifs,0⟩] a e) 0 f c d=Lv (.ListComp b [⟨tg,iter,ifs,0⟩] a e) 0 iter tg ifs (emL b c d) f c d:=rfl
def Ds(k v tg iter:IG)(ifs:A0 IG)(a:KR)(c:Pos)(d:A2)(D:A3)(b:QY) :
  compTurn (.DictComp k v [⟨tg,iter,ifs,0⟩] a c) 0 d (.ref D) b=Lv (.DictComp k v [⟨tg,iter,ifs,0⟩] a c) 0 iter tg ifs (emD k v D b) d (.ref D) b:=rfl
abbrev RV:=St->Hp->(St->Hp->Prop)->Prop
def PEm(X:Cx)(b:Sem Fin->Sem Fin)(t:RV):Prop :=
 ∀(a:A0 (A3×Obj)) (s:A4) (σ:St) (H:Hp) (Q:St->Hp->Prop) (k:Sem Fin) (F:Fin->A4->Prop) (E:A2->A4->Prop),Inv X a σ H s->t σ H Q ->
  (∀c σ' d,Inv X a σ' d c->Q σ' d->wpAny (model X.prog X.w) X.A k F E c)->wpAny (model X.prog X.w) X.A (b k) F E s
def SO(X:Cx)(ifs:A0 IG)(t:TT):Prop :=
 ∀(a:A0 (A3×Obj)) (s:A4) (σ:St) (H:Hp) (Q:Bool->Hp->Prop),Inv X a σ H s->t σ H Q ->
  wpAny (model X.prog X.w) X.A (forIn ifs true λc r=>if r=true then do let b <-isTrue c X.env (eval c X.env);pure (ForInStep.yield b)else pure (ForInStep.yield r)) (TP X a σ Q) X.xe s
def Ih:TT:=λ_ H Q=>Q true H
def P9{X:Cx}:SO X [] Ih:=λ_ _ _ H _ I h=>wpAny_tests_nil ⟨H,I,h⟩
def K8{X:Cx}{c:IG}{t:TT}(h:PT X c t):SO X [c] t:=λa s σ H Q I q=>wpAny_tests_one (h a s σ H Q I q)
def Ax(g:TG)(e:TT)(em:RV)(J:It)(σ:St)(H:Hp)(Q:St->Hp->Prop):Prop :=
 ∃W:Nat->Nat->St->Hp->Prop,(∃m,W 0 m σ H)/\∀i m σ H,W i m σ H->(J.stop i H/\Q σ H)\/(J.go i H/\∀x c,J.yld i H x c->g x σ c λσ2 f=>e σ2 f λb d =>
  if b=true then em σ2 d λσ3 h=>∃a,a < m/\W (i+1) a σ3 h else ∃a,a < m/\W (i+1) a σ2 d)
section
variable{X:Cx}{e tg iter:IG}{d:Nat}{ifs:A0 IG}{emit:Sem Fin->Sem Fin}{it:A3}{acc:A2}{g:TG}{tc:TT}{em:RV}{J:It}{fp:A0 A3}{tn:Nat->IC->Prop}{R:Result->A4->Prop}
theorem o9(G:X.A.under (.compLoop e d (.ref it) acc X.env)=X.A)(t:(model X.prog X.w).den (.compLoop e d (.ref it) acc X.env) =(compTurn e d (.ref it) acc X.env).onRaise (λx=>do noteFrame x X.env;theTreesLotGoes x))(V:X.calm=true)(L:X.xe=λ_ _=>False)(M:compTurn e d (.ref it) acc X.env=Lv e d iter tg ifs emit (.ref it) acc X.env)(hg:PG X tg g)(ht:SO X ifs tc)(N:PEm X emit em)
  (T:MQ X.prog X.w X.K tg J fp it tn) {a:A0 (A3×Obj)} {s:A4} {σ:St} {H:Hp} {Q:St->Hp->Prop} (I:Inv X a σ H s) (st:tn 0 s.heap) (Y:∀b∈fp,Dz X a H b) (h:Ax g tc em J σ H Q)
  (hR:∀v σ' H',Inv X a σ' H' v->Q σ' H'->R (.ok .next) v):codeAny (model X.prog X.w) X.A (.compLoop e d (.ref it) acc X.env) R s:=by
 obtain⟨W,⟨m0,w0⟩,y⟩:=h;have c:∀{H':Hp},(∀b∈fp,H' b=none)->∀b∈fp,Dz X a H' b:=λhn b f=>⟨hn b f,(Y b f).2⟩;have Z:∀{α:Type} {m:Sem α} {P:α->A4->Prop} {E:A2->A4->Prop} {s:A4},wpAny (model X.prog X.w) X.A m P X.xe s->wpAny (model X.prog X.w) X.A m P E s:=λq=>by
  rw[L]at q;exact B_ q (λ_ _ z=>z) λ_ _ z=>z.elim
 refine codeAny_loop rfl (λn v=>∃i σ' H',Inv X a σ' H' v/\tn i v.heap/\(∀b∈fp,H' b=none)/\W i n σ' H') (λn s3 hI=>?_) m0 ⟨0,σ,H,I,st,λb f=>(Y b f).1,w0⟩;obtain⟨i,σ3,D,I3,B,C,w3⟩:=hI;rw[G,t];refine wpAny_noted ?_;rw[M];unfold Lv;refine AA (EZ (AA ?_));rcases y i n σ3 D w3 with⟨stop,qn⟩ | ⟨go,step⟩
 .refine B_ (T.done X rfl rfl rfl V i a s3 σ3 D _ I3 (c C) B stop) (λr s4 ⟨O,I4⟩=>?_) λ_ _ z=>z;subst O;exact AD (hR s4 σ3 D I4 qn)
 .refine B_ (T.item X rfl rfl rfl V i a s3 σ3 D _ I3 (c C) B go) (λr s4 ⟨u,O,h4⟩=>?_) λ_ _ z=>z;subst O;refine AA (B_ h4 (λ_ s5 ⟨x,H5,I5,r5,y5,j,S⟩=>?_) λ_ _ z=>z);have U:=I5.pinned (c S) (T.obj _ _ j);have again:∀{σ7:St} {k:Hp} {l:A4},Inv X (a++Ha fp s5.heap) σ7 k l->(∃F,F < n/\W (i+1) F σ7 k)->∃m,m<n/\∃i σ' H',Inv X a σ' H' l/\tn i l.heap/\(∀b∈fp,H' b=none)/\W i m σ' H':=fun{σ7 k l} p n7=>by
   obtain⟨F,hm,w7⟩:=n7;refine⟨F,hm,i+1,σ7,k,p.unpinned,T.keep _ _ _ j λb f o e=>(p.pin (b,o) (BN _ (BN _ (c9 f e)))).1,λb f=>?_,w7⟩;obtain⟨o,e,d⟩:=T.obj _ _ j b f;exact(p.pin (b,o) (BN _ (BN _ (c9 f e)))).2.1
  refine AA (B_ (Z (hg _ s5 σ3 H5 x u _ U r5 (step x H5 y5))) (λ_ s6 ⟨σ6,H6,I6,q6⟩=>?_) λ_ _ z=>z);refine AA (B_ (Z (ht _ s6 σ6 H6 _ I6 q6)) (λok l ⟨k,p,q7⟩=>?_) λ_ _ z=>z);cases ok with
  | false=>exact AD ⟨rfl,again p q7⟩
  | true =>
   exact N _ l σ6 k _ _ _ _ p q7 λs8 σ8 H8 I8 q8=>AD ⟨rfl,again I8 q8⟩
theorem Eh(f:X.A.under (.compStart e d (.ref it) acc X.env)=X.A)(b:(model X.prog X.w).den (.compStart e d (.ref it) acc X.env) =(compStart e d (.ref it) acc X.env).onRaise (λx=>do noteFrame x X.env;standAt theWindowsPlace)){gs:A0 Comprehension}(g:clausesOf e=gs)(k:gs[d]?=some ⟨tg,iter,ifs,0⟩){s:A4}(T:MQ X.prog X.w X.K tg J fp it tn)(st:tn 0 s.heap)
  (h:codeAny (model X.prog X.w) X.A (.compLoop e d (.ref it) acc X.env) R s):codeAny (model X.prog X.w) X.A (.compStart e d (.ref it) acc X.env) R s:=by
 refine codeAny_of_tree ?_;rw[f,b];refine wpAny_notedAt ?_;unfold compStart;rw[g,k];show wpAny _ X.A (ask >>= _) _ _ s;refine AA (GV (wpAny_ite ?_));have j:=T.self X.A 0 s (λa c=>codeAny (model X.prog X.w) X.A (.compLoop e d a acc X.env) R c) (notedBy (model X.prog X.w) X.A X.env λx c=>R (.error x) c) st h;split
 .first
   | exact AA (AD (AD (And.intro rfl h)))
   | exact AD (And.intro rfl h)
 .first
   | exact AA (DG (AA (EZ (AA (B_ j (λa c i=>AD (And.intro rfl i)) λ_ _ x=>x)))))
   | (refine AA (DG ?_);show wpAny _ _ (standAt iter.pos >>= _) _ _ s;exact AA (EZ (AA (B_ j (λa c i=>AD (And.intro rfl i)) λ_ _ x=>x))))
end
section
variable{X:Cx}{tg iter:IG}{ifs:A0 IG}{g:TG}{tc:TT}{em:RV}{scope:KR}{cl:A0 (Str×A3)}{N':A0 Str}{cap:A0 (A5 Nat)}{pos:Pos}{wi:TI}
def Ji(wi:TI)(o:A3->HO)(cap:A0 (A5 Nat))(b:A3->It->St->Hp->(St->Hp->Prop)->Prop):TE:=λσ H Q=>wi σ H λJ a=>∀D,a D=none->b D J (Yh cap σ) (H_ a D (o D)) λ_ c=>Q (.ref D) c
theorem Ml{e:IG}{gs:A0 Comprehension}{newAcc:Sem A2}{p2:Pos}(r:clausesOf e =⟨tg,iter,ifs,0⟩::gs)(o:A3->HO)(hs:∀x,foldedSetIterable iter X.env x=pure x)(S:MN X scope cl N' cap)(hc:X.calm=true)(hi:PI X tg iter wi)
  {lp:A3->It->St->Hp->(St->Hp->Prop)->Prop}
  (t:∀(a:A0 (A3×Obj)) (s:A4) (σ:St) (H:Hp) (Q:A2->A4->Prop) (E:A2->A4->Prop),Inv X a σ H s->(∀l,Inv X a σ (H_ H s.heap.objs.size (o s.heap.objs.size)) l->(∀b f,s.heap.get? b=some f->l.heap.get? b=some f)->Q (.ref s.heap.objs.size) l)->wpAny (model X.prog X.w) X.A newAcc Q E s)
  (G:∀(a:A0 (A3×Obj)) (L:A0 A3) (s3:A4) (M:Hp) (D k:A3) (fp:A0 A3) (tn:Nat->IC->Prop) (J:It) (σ:St) (s:A4) (H:Hp) (Q:St->Hp->Prop) (R:Result->A4->Prop),
   MQ X.prog X.w X.K tg J fp k tn->Inv (LZ X scope cl N' a L s3 M) [] σ H s->tn 0 s.heap->(∀b∈fp,Dz (LZ X scope cl N' a L s3 M) [] H b)->lp D J σ H Q ->
   (∀l σ' H',Inv (LZ X scope cl N' a L s3 M) [] σ' H' l->Q σ' H'->R (.ok .next) l) ->
   codeAny (model X.prog X.w) X.A (.compLoop e 0 (.ref k) (.ref D) (compEnvC scope cl s3.heap.objs.size X.env)) R s)
  (N:∀k D g,X.A.under (.compStart e 0 (.ref k) (.ref D) g)=X.A) (u:∀k D g,(model X.prog X.w).den (.compStart e 0 (.ref k) (.ref D) g) =(compStart e 0 (.ref k) (.ref D) g).onRaise (λx=>do noteFrame x g;standAt theWindowsPlace))
  (O:∀E Q s,wpAny (model X.prog X.w) X.A (comprehension e scope X.env p2 newAcc false (eval iter X.env)) Q E s->wpAny (model X.prog X.w) X.A (eval e X.env) Q E s) :
  PE X e (Ji wi o cap lp):=by
 intro a s σ H Q I h;refine O _ _ _ (wpAny_comprehension_free (use:=none) r hs S.clos S.kind S.loc (JB (hi a s σ H _ I h) λv s1 B=>JB B λitv i h2=>?_));obtain⟨k,fp,tn,J,q,P,I2,T,C,f2,R2⟩:=h2;subst P;refine t a i σ q _ _ I2 λs3 U k3=>?_;have hD:q i.heap.objs.size=none:=I2.hok.fresh (VD _);have n:∀b∈fp,Dz X a (H_ q i.heap.objs.size (o i.heap.objs.size)) b/\∃f,s3.heap.get? b=some f:=λb j=>by
  obtain⟨f,e,_⟩:=T.obj _ _ C b j;obtain⟨V,fr⟩:=f2 b j;exact⟨⟨by rw[B7 (BA (AG e))];exact V,fr⟩,f,k3 b f e⟩
 refine wpAny_newFunctionEnv S.nocell (by intro y hy;simp at hy) (λB W Y=>?_) S.kind;have hk:∀b f,s3.heap.get? b=some f->B.get? b=some f:=λb f e=>(Y.2 b (BA (AG e))).trans (AC _ e);have I4:Inv (LZ X scope cl N' a fp s3 (H_ q i.heap.objs.size (o i.heap.objs.size))) [] (Yh cap σ) (H_ q i.heap.objs.size (o i.heap.objs.size)) { s3 with heap:=B,toks:=s3.toks +([]:A0 (Str×A2)).length } :=
  U.block S hc n W hk
 have F:tn 0 B:=T.keep 0 _ _ C λb j f e=>hk b f (k3 b f e);refine Eh (X:=LZ X scope cl N' a fp s3 (H_ q i.heap.objs.size (o i.heap.objs.size))) (gs:=⟨tg,iter,ifs,0⟩::gs) (e:=e) (d:=0) (tg:=tg) (iter:=iter) (ifs:=ifs) (N _ _ _) (u _ _ _) r rfl T F ?_;refine G a fp s3 _ i.heap.objs.size k fp tn J (Yh cap σ) _ _ _ _ T I4 F (λb j=>?_) (R2 _ hD) λl σ' H' I' q'=>?_
 .obtain⟨⟨V,f1,Z,f3,f4,f5⟩,f,eo⟩:=n b j;refine⟨V,BA (AG eo),λhf=>?_,.inl j,λx c e=>f4 x c (S.cin.get e),λp hp=>f5 p (by simpa [LZ] using hp)⟩;rcases AU.mp (U.stkSub b hf)with z | z
  .exact f1 z
  .exact Z z
 .obtain⟨m,hn,_⟩:=I'.loc;exact⟨m,hn,λh' j=>⟨.ref _,H',U.unblock (λb j=>(n b j).1) I' j,rfl,q'⟩⟩
end
section
variable{X:Cx}{tg iter elt:IG}{ifs:A0 IG}{g:TG}{tc:TT}{te:TE}{scope:KR}{cl:A0 (Str×A3)}{N':A0 Str}{cap:A0 (A5 Nat)}{pos:Pos}{wi:TI}
def g7(D:A3)(te:TE):RV:=λσ H Q=>te σ H λy b=>∃a,b D=some (.lst a)/\a.length<sizeLine/\Q σ (H_ b D (.lst (a ++ [y])))
theorem Lw{α:Type}{X:Cx}(a:X.xe=λ_ _=>False){m:Sem α}{P:α->A4->Prop}{E:A2->A4->Prop}{s:A4}(q:wpAny (model X.prog X.w) X.A m P X.xe s):wpAny (model X.prog X.w) X.A m P E s:=by
 rw[a]at q;exact B_ q (λ_ _ z=>z) λ_ _ z=>z.elim
theorem Li{D:A3}(b:X.xe=λ_ _=>False)(d:PE X elt te):PEm X (emL elt (.ref D) X.env) (g7 D te):=by
 intro a s σ H Q k F E I h e;unfold emL;refine AA (AA (B_ (Lw b (d a s σ H _ I h)) (λu f ⟨y,g,i,j,l,m,n,o⟩=>?_) λ_ _ z=>z));refine AA (B_ (Lw b (S0 a f σ g (.ref D) [y] (.ref D) [u] (λv c=>v = .non/\Q σ c) i rfl (.cons j .nil) ⟨D,l,y,rfl,rfl,m,n,rfl,o⟩)) (λv p ⟨t,c,q,w,_,r⟩=>?_) λ_ _ z=>z);exact AD (e p σ c q r)
theorem V5(S:MN X scope cl N' cap)(i:X.calm=true)(hi:PI X tg iter wi)
  (j:∀(a:A0 (A3×Obj)) (c:A0 A3) (d:A4) (f:Hp),PG (LZ X scope cl N' a c d f) tg g/\SO (LZ X scope cl N' a c d f) ifs tc/\PE (LZ X scope cl N' a c d f) elt te)
  (k:∀x,foldedSetIterable iter X.env x=pure x:=by intro _;rfl) :
  PE X (.ListComp elt [⟨tg,iter,ifs,0⟩] scope pos) (Ji wi (λ_=>.lst []) cap λD J σ H Q=>Ax g tc (g7 D te) J σ H Q):=by
 refine Ml (newAcc:=newList []) (p2:=firstIterPos [⟨tg,iter,ifs,0⟩] pos) rfl (λ_=>.lst []) k S i hi (λa s σ H Q E I h=>?_) (λa c d f D q r tn J σ s H Q R T I st l h m=>?_) (λ_ _ _=>rfl) (λ_ _ _=>rfl) (λE Q s h=>h)
 .refine wpAny_newList ?_;exact h _ (I.lnew (t':=s.toks) (its:=[]) .nil (CB _)) λb t e=>AC _ e
 .obtain⟨n,o,p⟩:=j a c d f;exact o9 (X:=LZ X scope cl N' a c d f) rfl rfl i rfl (Dp elt tg iter ifs scope pos _ _ _) n o (Li rfl p) T I st l h m
def Et(D:A3)(c d:TE):RV:=λσ H Q=>c σ H λy e=>d σ e λv b=>∃a k,b D=some (.dK a)/\y=kV k/\a.length<sizeLine/\Q σ (H_ b D (.dK (Bd a k v)))
theorem Mf{D:A3}{a b:IG}{j m:TE}(d:X.xe=λ_ _=>False)(o:PE X a j)(p:PE X b m):PEm X (emD a b D X.env) (Et D j m):=by
 intro c s σ H Q k F E I h t;unfold emD;refine AA (AA (B_ (Lw d (o c s σ H _ I h)) (λu w ⟨y,x,A,B,C⟩=>?_) λ_ _ z=>z));refine AA (BP (B_ (Lw d (p c w σ x _ A C)) (λr G ⟨v,W,n,J,f,kk,e,K,l,L⟩=>?_) λ_ _ z=>z));refine AA (EZ (BP ?_));subst K;obtain⟨z,M,N,g,O⟩:=Uq n.hok e;have P:N.length<=sizeLine:=by rw[<-g.length];exact z
 have R:(Bd f kk v).length<=sizeLine:=by have:=V4 f kk v;lia
 refine wpAny_dictSet_pairs (hsz:=P) (Hb B) O λS i T=>?_;have U:∃q,S.get? D=some q:=let⟨q,_,_,V,_⟩:=i;⟨q,V⟩;exact t _ σ _ (Qp (t':=G.toks+1) n (by rw[e];exact VC) T U (Mu R M (g.put kk J) i)) L
theorem Np{a b:IG}{j k:TE}(S:MN X scope cl N' cap)(l:X.calm=true)(hi:PI X tg iter wi)
  (m:∀(c:A0 (A3×Obj)) (d:A0 A3) (f:A4) (i:Hp),PG (LZ X scope cl N' c d f i) tg g/\SO (LZ X scope cl N' c d f i) ifs tc/\PE (LZ X scope cl N' c d f i) a j/\PE (LZ X scope cl N' c d f i) b k)
  (n:∀x,foldedSetIterable iter X.env x=pure x:=by intro _;rfl) :
  PE X (.DictComp a b [⟨tg,iter,ifs,0⟩] scope pos) (Ji wi (λ_=>.dK []) cap λD J σ H Q=>Ax g tc (Et D j k) J σ H Q):=by
 refine Ml (newAcc:=newDict) (p2:=firstIterPos [⟨tg,iter,ifs,0⟩] pos) rfl (λ_=>.dK []) n S l hi (λc s σ H Q E I h=>?_) (λc d f i D y z tn J σ s H Q R T I st p h r=>?_) (λ_ _ _=>rfl) (λ_ _ _=>rfl) (λE Q s h=>h)
 .refine BV ?_;exact h _ (I.laid (a:=s.heap.objs.size) (o:=.dK []) (t':=s.toks) (λ_ _ q=>AC _ q) (VD _) (Ew s.heap I.big)) λb A e=>AC _ e
 .obtain⟨t,u,v,w⟩:=m c d f i;exact o9 (X:=LZ X scope cl N' c d f i) rfl rfl l rfl (Ds a b tg iter ifs scope pos _ _ _) t u (Mf rfl v w) T I st p h r
end
instance:LawfulBEq IS where
 rfl {a}:=by cases a with
  | inl i=>show(i == i)=true;simp
  | inr x=>show(x == x)=true;simp
 eq_of_beq {a b} h:=by
  cases a with
  | inl i=>cases b with
   | inl j=>exact congrArg Sum.inl (eq_of_beq (show(i == j)=true from h))
   | inr j=>exact absurd h (by intro z;cases z)
  | inr i=>cases b with
   | inl j=>exact absurd h (by intro z;cases z)
   | inr j=>exact congrArg Sum.inr (eq_of_beq (show(i == j)=true from h))
def Pi(P:HX)(w:HZ)(a:A3)(l:A0 IS):HO:=.ext λh=>h.SetOf (C8 P w) a (λk=>decide (k∈l)) l.length
section
variable{X:Cx}{pins:A0 (A3×Obj)}{σ:St}{H:Hp}{s:A4}{a:A3}{l:A0 IS}
theorem zEi{P:HX}{w:HZ}{H:Hp}{h:IC}(z:h.SetOf (C8 P w) a (λk=>decide (k∈l)) l.length):IU P w H h a (Pi P w a l) :=
 ⟨z,let⟨o,_,_,_,e,_⟩:=z;⟨o,e⟩,λd f ⟨o,b,c,t,e,r⟩ k=>⟨o,b,c,t,k o e,r⟩⟩
theorem Inv.set(I:Inv X pins σ H s)(e:H a=some (Pi X.prog X.w a l)):s.heap.SetOf (C8 X.prog X.w) a (λk=>decide (k∈l)) l.length:=by
 obtain⟨z,_⟩:=(show IU X.prog X.w H s.heap a (Pi X.prog X.w a l)from I.hok a _ e);exact z
theorem Ly{k:IS}{u:A2}(r:RelV (kV k) u):u.scannable=true:=by
 cases k with
 | inl i=>obtain⟨t,rfl⟩:=r;rfl
 | inr x=>obtain⟨t,rfl⟩:=r;rfl
def zFn(l:A0 IS)(k:IS):A0 IS:=if k∈l then l else l ++ [k]
theorem Kg{P:HX}{w:HZ}{h:IC}{S b:IS->Bool}{n c:Nat}(z:h.SetOf (C8 P w) a S n)(e:∀k,b k=S k)(en:c=n):h.SetOf (C8 P w) a b c:=by
 have:b=S:=funext e;subst this;subst en;exact z
theorem Ud:J8 X (.type "set") (λxs H Q=>xs = []/\∀p,H p=none->Q (.ref p) (H_ H p (Pi X.prog X.w p []))):=by
 intro pins s σ H xs c Q I r h;obtain⟨rfl,q⟩:=h;cases r;refine call_set_0 λa=>⟨.ref s.heap.objs.size,_,I.laid (t':=s.toks) (λb o e=>AC _ e) (VD _) (zEi ?_),rfl,q _ (I.hok.fresh (VD _))⟩;exact(setObjOf_fresh a).setOf (AW _ rfl) (by decide)
def zEg(P:HX)(w:HZ):V->A0 V->Hp->VK->Prop:=λx b H Q=>∃a l k,x = .ref a/\b = [kV k]/\H a=some (Pi P w a l)/\l.length+1<4096/\Q .non (H_ H a (Pi P w a (zFn l k)))
theorem zBz:PX X "set.add" (zEg X.prog X.w):=by
 intro pins s σ H x r v t Q I g i h;obtain⟨a,l,k,rfl,rfl,c,j,q⟩:=h;cases g;obtain⟨u,rfl,d⟩:=i.one;refine call_set_add (Hb d) (Ly d) (I.set c) j λy m z=>?_;refine⟨.non,_,I.write (x:=a) (e:=a) (t':=s.toks+1) (by rw[c];exact VC) (.inl rfl) (λb q n e=>(m.2 b n).trans e) (let⟨o,_,_,_,e,_⟩:=z;⟨o,e⟩) (zEi (Kg z (λp=>?_) ?_)),rfl,q⟩
 .unfold zFn;by_cases e:k∈l
  .rw[AN e];by_cases f:p=k
   .subst f;simp[e]
   .simp[f]
  .rw[AI e];simp
 .unfold zFn;by_cases e:k∈l
  .rw[AN e];simp[e]
  .rw[AI e];simp[e]
def zHq(P:HX)(w:HZ)(neg:Bool):R2:=λx y H Q=>∃a l k,y = .ref a/\x=kV k/\H a=some (Pi P w a l)/\Q (.bl (if neg then !decide (k∈l)else decide (k∈l))) H
theorem Sk:KM X (compareOp .In) (zHq X.prog X.w false):=by
 intro pins s σ H x y v u Q I b c h;obtain⟨a,l,k,rfl,rfl,d,q⟩:=h;cases c;exact wpAny_inSet_of (Hb b) (Ly b) (I.set d) ⟨.bl (decide (k∈l)),H,I.tok _,rfl,q⟩
end
def Its(x:Str):It:=⟨λi _=>i<x.cps.size,λi H v a=>a=H/\∃c,x.cps[i]?=some c/\v = .str ⟨#[c]⟩,λi _=>i=x.cps.size⟩
def Na{P:HX}{w:HZ}{K:VA}{tg:IG}(a:A3)(x:Str)(t:Tok)(ty:String)(p:["enumerate","zip","dict_itemiterator","dict_reverseitemiterator","odict_iterator","itertools.zip_longest","itertools.pairwise"].contains ty=false)
  (W:∀R:IE,R.handled=none->Walks P w R a [a] [a] x.cps.size (SignAt x) (λi h=>h.IsStrIter a ty x t i))
  (g:∀(A:IE) (i:Nat) (s:A4) (Q:A2->A4->Prop) (E:A2->A4->Prop),s.heap.IsStrIter a ty x t i->Q (.ref a) s->wpAny (model P w) A (pyIter (.ref a)) Q E s):MQ P w K tg (Its x) [a] a (λi h=>h.IsStrIter a ty x t i) where
 mem:=by simp
 obj:=λi h st b j=>by
  have e:b=a:=by simpa using j
  subst e;obtain⟨o,e,c,d⟩:=st;exact⟨o,e,λv z=>by rw[d]at z;cases z⟩
 keep:=λi h m st k=>let⟨o,e,r⟩:=st;⟨o,k a (by simp) o e,r⟩
 item:=by
  intro X q y B C i f s σ H E I n st D;subst q y B;obtain⟨F,G,S,J,L,M⟩:=n a (by simp);refine(W X.A (I.ok.hd C)).item i s _ _ D st λv m N T l k=>?_;obtain⟨c,u,U,V⟩:=T;have Y:Inv X f σ H { s with heap:=m,toks:=N }:=I.turned (λb o j e=>k b o (by simpa using j) e) F G J L M;obtain⟨o,e,Z,d⟩:=id l;exact⟨v,rfl,Vw (s:={ s with heap:=m,toks:=N }) e Z d p ⟨.str ⟨#[c]⟩,H,Y,⟨u,V⟩,⟨rfl,c,U,rfl⟩,l,λb j=>(n b j).1⟩⟩
 done:=by
  intro X q y B C i f s σ H E I n st D;subst q y B;obtain⟨F,G,S,J,L,M⟩:=n a (by simp);have O:i=x.cps.size:=D;subst O;exact(W X.A (I.ok.hd C)).done s _ _ st λm N k=>⟨rfl,I.turned (λb o j e=>k b o (by simpa using j) e) F G J L M⟩
 self:=λA i s Q E st h=>g A i s Q E st h
section
variable{X:Cx}{tg:IG}
def zIp(a:TE):TI:=λσ H R=>a σ H λx b=>∃z,x = .str z/\R (Its z) b
theorem Yi{l:IG}{tl:TE}(m:PE X l tl):PI X tg l (zIp tl):=by
 intro a s σ H R I h;refine JB (m a s σ H _ I h) λv s1 ⟨x,n,g,p,r⟩=>?_;obtain⟨z,e,q⟩:=r;subst e;obtain⟨t,rfl⟩:=p;have f:∀(o:Obj) (ty:String),o.cls = .type ty->o.data = .fields #[.str z t,.int (0:Nat) 0]->o.isFreed=false->MQ X.prog X.w X.K tg (Its z) [s1.heap.objs.size] s1.heap.objs.size (λi h=>h.IsStrIter s1.heap.objs.size ty z t i) ->
   PIE X a σ tg R (.ref s1.heap.objs.size) { s1 with heap:=s1.heap.push o }:=λo ty c d u T=>by
  refine⟨s1.heap.objs.size,[s1.heap.objs.size],_,_,n,rfl,g.kept (t':=s1.toks) λb o e=>AC _ e,T,⟨o,AW _ u,c,d⟩,λb y=>?_,q⟩;have e:b=s1.heap.objs.size:=by simpa using y
  subst e;exact g.fpOk (VD _) (g.hok.fresh (VD _))
 cases k:z.cps.all (· < 128)
 .exact wpAny_pyIter_wide k (f _ _ rfl rfl rfl (Na _ z t "str_iterator" (by decide) (λB j=>Walks.strWide j _ z t) λA i s Q E st h=>wpAny_pyIter_striter_wide st h))
 .exact wpAny_pyIter_ascii k (f _ _ rfl rfl rfl (Na _ z t "str_ascii_iterator" (by decide) (λB j=>Walks.strAscii j _ z t) λA i s Q E st h=>wpAny_pyIter_striter_ascii st h))
end
theorem Wl(E:X.calm=true):J8 X (.builtin "all") (λxs H Q=>∃(p:A3) (bs:A0 Bool),xs = [.ref p]/\II X.K H p (bs.map V.bl)/\Q (.bl (bs.all id)) H):=by
 intro B s σ H xs M Q I r h;obtain⟨p,bs,rfl,F,q⟩:=h;obtain⟨u,rfl,t⟩:=Y3 r;cases t;obtain⟨a,w,x,N⟩:=I.list F;refine call_all_walk (FJ x.isList ?_);have y:p≠s.heap.objs.size:=by
  obtain⟨o,n,e,_⟩:=x;exact BA (AG e)
 refine⟨s.heap.objs.size,_,_,_,_,_,λi=>bs.getD i true,rfl,Walks.list (A:=X.A.in1) (show X.A.in1.handled=none from I.ok.hd E) _ p y a.toArray,⟨⟨_,AW _ rfl,rfl,rfl⟩,?_⟩,λi v O P R G J=>?_,λS T k=>?_⟩
 .obtain⟨o,n,e,c,d,L⟩:=x;exact⟨o,AC _ e,c,n,L⟩
 .have f:(bs.map V.bl)[i]?=some (V.bl (bs.getD i true))/\RelV (V.bl (bs.getD i true)) v:=by
   have g:a[i]?=some v:=by simpa using G
   have j:i<a.length:=(AK.mp g).1;have m:=w.length;rw[AB]at m;have e:(bs.map V.bl)[i]?=some (V.bl (bs.getD i true)):=by
    rw[AH,AF (by lia)];simp[CA,AF (show i<bs.length by lia)]
   obtain⟨u,C,t⟩:=w.get e;rw[g]at C;cases C;exact⟨e,t⟩
  cases f.2;exact C_ J
 .have m:=w.length;rw[AB]at m;have e:(List.range a.toArray.size).all (λi=>bs.getD i true)=bs.all id:=by
   rw[AR,<-m];rw[GC,EB,EB];constructor
   .intro z b f;obtain⟨i,j,rfl⟩:=EA.mp f;have:=z i (DC.mpr j);simpa [CA,AF j] using this
   .intro z i j;have l:=DC.mp j;have:=z bs[i] (DD l);simpa [CA,AF l] using this
  rw[e];exact⟨.bl (bs.all id),H,I.kept λb o D=>k b o (by
   intro f;have:b=s.heap.objs.size:=by simpa using f
   exact absurd (AG D) (by rw[this];exact DA _)) (AC _ D),rfl,q⟩
theorem U7:∀{ss:A0 Str} {us:A0 A2},IJ (ss.map V.str) us->StrsAre us ss
 | [],_,.nil=>.nil
 | _::_,_,.cons ⟨t,e⟩ r=>by subst e;exact .cons _ _ (U7 r)
def NR(a b:Str):Prop:=¬b.cps.toList<a.cps.toList
theorem Am:J8 X (.builtin "sorted") (λxs H Q=>∃(p:A3) (ss:A0 Str),xs = [.ref p]/\II X.K H p (ss.map V.str)/\∀(l:A3) (a:A0 Str),H l=none->a.Perm ss->a.Pairwise NR->Q (.ref l) (H_ H l (.lst (a.map V.str)))):=by
 intro D s σ H xs d Q I r h;obtain⟨p,ss,rfl,J,q⟩:=h;obtain⟨u,rfl,L⟩:=Y3 r;cases L;obtain⟨f,E,M,U⟩:=I.list J;have i:=U7 E;have W:=E.length;refine TS.KS (collect_list (vs:=f) M.isList ?_ (by lia));refine⟨rfl,by lia,strKind,oneType',λY _=>TS.MP i,λout F e N k O=>?_⟩;have g:((s.heap.push (seqObj "list" #[] 0)).update s.heap.objs.size (Obj.mapSeq (· ++ f.toArray))).objs.size=s.heap.objs.size+1:=by rw[GS,size_push']
 obtain⟨j,P⟩:=N;have m:∀v∈out.toList,∃x t,v = .str x t:=λv n=>i.all v (j.mem_iff.mp n);have n:IJ ((out.toList.map strOf).map V.str) out.toList:=by
  have:∀d:A0 A2,(∀v∈d,∃x t,v = .str x t)->IJ ((d.map strOf).map V.str) d:=by
   intro d
   induction d with
   | nil=>exact λ_=>.nil
   | cons v r R =>
    intro h;obtain⟨x,t,rfl⟩:=h v (AX ..);exact .cons ⟨t,rfl⟩ (R λu w=>h u (AL _ w))
  exact this _ m
 have c:(out.toList.map strOf).Perm ss:=by
  have:=j.map strOf
  rwa [i.strs]at this
 have z:(out.toList.map strOf).Pairwise NR:=by
  rw[CT];refine(EJ.mp P).imp fun{u v} ⟨w,A,q⟩=>?_;obtain⟨x,t,rfl⟩:=m u w;obtain⟨y,t',rfl⟩:=m v A;have S:decide (y.cps.toList<x.cps.toList)=false:=q;exact HF S
 have B:∀b o,s.heap.get? b=some o->F.get? b=some o:=λb o G=>k b o (by
  rw[Heap.get?_update_ne _ _ _ _ (BA (AG G))];exact AC _ G)
 have T:H (s.heap.objs.size+1)=none:=I.hok.fresh (DM _);have C:F.get? (s.heap.objs.size+1)=some (seqObj "list" out e):=by rw[<-g];exact O
 refine⟨.ref (s.heap.objs.size+1),H_ H (s.heap.objs.size+1) (.lst ((out.toList.map strOf).map V.str)),?_,by show Value.ref _=_;rw[<-g],q _ _ T c z⟩;refine I.laid (t':=s.toks) B (DM _) ⟨?_,out.toList,e,n,by simpa using C⟩;rw[AB,AB,j.length_eq];lia
def Il{α β:Type}(f:α->β){l m:A0 β}(h:l.Perm m):∀ps:A0 α,m=ps.map f->∃a:A0 α,a.Perm ps/\l=a.map f:=by
 induction h with
 | nil=>intro ps e;exact⟨ps,.refl _,e⟩
 | cons x _ n =>
  intro ps e;cases ps with
  | nil=>cases e
  | cons p ps =>
   rw[BM]at e;obtain⟨rfl,b⟩:=List.cons.inj e;obtain⟨a,c,d⟩:=n ps b;exact⟨p::a,.cons _ c,by rw[BM,d]⟩
 | swap x y l =>
  intro ps e
  match ps,e with
  | p::q::ps,e =>
   rw[BM,BM]at e;obtain⟨rfl,b⟩:=List.cons.inj e;obtain⟨rfl,o⟩:=List.cons.inj b;exact⟨q::p::ps,.swap _ _ _,by rw[BM,BM,o]⟩
 | trans _ _ g i =>
  intro ps e;obtain⟨j,c,d⟩:=i ps e;obtain⟨k,r,s⟩:=g j d;exact⟨k,r.trans c,s⟩
abbrev IQ:=A3×Str×Str
def Gk(q:IQ):A0 Nat×A0 Nat:=(q.2.1.cps.toList,q.2.2.cps.toList)
def QH(q r:IQ):Prop:=TS.JJ (Gk r) (Gk q)=false
def G9(H:Hp)(q:IQ):Prop:=H q.1=some (.tup [.str q.2.1,.str q.2.2])
def Gr:∀{ps:A0 IQ} {us:A0 A2},IJ (ps.map λq=>V.ref q.1) us->us=ps.map λq=>Value.ref q.1
 | [],_,.nil=>rfl
 | _::_,_,.cons r t=>by rw[BM,Gr t];cases r;rfl
def Gu:∀(ps:A0 IQ),IJ (ps.map λq=>V.ref q.1) (ps.map λq=>Value.ref q.1)
 | []=>.nil
 | _::ps=>.cons rfl (Gu ps)
theorem Inv.pairAt{a:A0 (A3×Obj)}{σ:St}{H:Hp}{s:A4}{q:IQ}(I:Inv X a σ H s)(h:G9 H q):TS.MK s.heap (.ref q.1) q.2.1 q.2.2:=by
 obtain⟨b,f,⟨o,e,c,n,d⟩,_⟩:=I.tuple (IV.of h);obtain⟨i,j,rfl,⟨t,rfl⟩,⟨g,rfl⟩⟩:=f.two;exact⟨q.1,o,n,t,g,rfl,e,c,d⟩
theorem Hn:J8 X (.builtin "sorted") (λxs H Q=>∃(p:A3) (ps:A0 IQ),xs = [.ref p]/\II X.K H p (ps.map λq=>V.ref q.1)/\(∀q∈ps,G9 H q) /\
  ∀(l:A3) (c:A0 IQ),H l=none->c.Perm ps->c.Pairwise QH->Q (.ref l) (H_ H l (.lst (c.map λq=>V.ref q.1)))):=by
 intro A s σ H xs us Q I r h;obtain⟨p,ps,rfl,j,w,q⟩:=h;obtain⟨u,rfl,M⟩:=Y3 r;cases M;obtain⟨d,B,N,C⟩:=I.list j;have D:=Gr B;have hl:=B.length;refine TS.KS (collect_list (vs:=d) N.isList ?_ (by lia));have f:((s.heap.push (seqObj "list" #[] 0)).update s.heap.objs.size (Obj.mapSeq (· ++ d.toArray))).objs.size=s.heap.objs.size+1:=by rw[GS,size_push']
 have m:∀b o,s.heap.get? b=some o->((s.heap.push (seqObj "list" #[] 0)).update s.heap.objs.size (Obj.mapSeq (· ++ d.toArray))).get? b=some o:=λb o g=>by
  rw[Heap.get?_update_ne _ _ _ _ (BA (AG g))];exact AC _ g
 have i:∀q∈ps,TS.MK s.heap (.ref q.1) q.2.1 q.2.2:=λq j=>I.pairAt (w q j);refine⟨rfl,by lia,TS.pairKind s.heap,tuples' true,λs2 O=>TS.QI (λv E=>?_) (λb o g=>?_),λout P e R k S=>?_⟩
 .rw[D]at E;obtain⟨q,j,rfl⟩:=BK.mp E;exact⟨_,_,i q j⟩
 .have n:b≠((s.heap.push (seqObj "list" #[] 0)).update s.heap.objs.size (Obj.mapSeq (· ++ d.toArray))).objs.size:=by
   rw[f];exact BA (EU (AG g))
  exact⟨n,O b o n (m b o g)⟩
 .obtain⟨F,G⟩:=R;rw[D]at F;obtain⟨c,t,J⟩:=Il (λq:IQ=>Value.ref q.1) F ps rfl;have x:c.Pairwise QH:=by
   rw[J,CT]at G;refine(EJ.mp G).imp fun{a b} ⟨T,U,z⟩=>?_;have W:=(i a (t.mem_iff.mp T)).key;have Y:=(i b (t.mem_iff.mp U)).key;have L:TS.JJ ((TS.NS s.heap (.ref b.1)).getD ([],[])) ((TS.NS s.heap (.ref a.1)).getD ([],[]))=false:=z;rw[W,Y]at L;exact L
  have Z:H (s.heap.objs.size+1)=none:=I.hok.fresh (DM _);have y:P.get? (s.heap.objs.size+1)=some (seqObj "list" out e):=by rw[<-f];exact S
  refine⟨.ref (s.heap.objs.size+1),H_ H (s.heap.objs.size+1) (.lst (c.map λq=>V.ref q.1)),?_,by show Value.ref _=_;rw[<-f],q _ _ Z t x⟩;refine I.laid (t':=s.toks) (λb o g=>k b o (m b o g)) (DM _) ⟨?_,out.toList,e,by rw[J];exact Gu c,by simpa using y⟩;rw[AB,t.length_eq];rw[AB]at C;exact C
end
def Inv.turnLaid{X:Cx}{d:A0 (A3×Obj)}{σ:St}{H:Hp}{s:A4}{h':IC}{t':Nat}{fp:A0 A3}{T:A3}{o:HO}(I:Inv X d σ H s)(k:∀b a,b∉fp->s.heap.get? b=some a->h'.get? b=some a)
  (i:∀b∈fp,Dz X d H b) (x:∀b∈fp,∃a,s.heap.get? b=some a) (l:s.heap.objs.size<=T) (j:IU X.prog X.w (H_ H T o) h' T o):Inv X d σ (H_ H T o) { s with heap:=h',toks:=t' }:=by
 have h:=I.hok.fresh l;have y:∀b a,s.heap.get? b=some a->b≠T:=λb a e=>BA (BI (AG e) l);have p:∀b u,H b=some u->b∉fp:=λb u e f=>by rw[(i b f).1]at e;cases e
 refine I.step (g':=s.gens) (d':=s.drawn) (ch:=fp) (λb f=>let⟨_,A,_,B,C,D⟩:=i b f;⟨B,A,C,D⟩) (λb a _ _ g e _=>k b a g e) (λb a _ _ g e _=>⟨a.slots,k b a g e⟩) (λb a _ e n=>by rw[B7 (y b a e)];exact n)
  (λb a g e=>⟨a,k b a g e⟩) (λb t e=>by rw[B7 (B0 e h)];exact e) (λb u t e=>by rw[B7 (B0 e h)];exact e) (λb ps e=>⟨#[],by rw[B7 (B0 e h),e];simp⟩) (λm E=>?_) (λb u e=>?_) I.bare
 .obtain⟨a,F,G,J,r⟩:=E;exact⟨a,F,G,k _ a (λf=>(i _ f).2.1 rfl) J,r⟩
 .by_cases f:b=T
  .subst f;rw[A7]at e;cases e;exact j
  .rw[B7 f]at e;refine(I.hok b u e).stay (λc v g q=>k c v ?_ q) (λc q=>by rw[B7 (B0 q h)];exact q) λc t q=>by rw[B7 (B0 q h)];exact q
   rcases g with z | z
   .rw[z];exact p b u e
   .exact p c _ z
end L2
namespace ST
open PySem
def stp(mask i:Nat):Nat:=(5*i+1) %(mask+1)
def RH(mask:Nat):Nat->Nat->Nat
 | 0,i=>i
 | t+1,i=>RH mask t (stp mask i)
def orb(mask:Nat):Nat->Nat->A0 Nat
 | 0,_=>[]
 | n+1,i=>i::orb mask n (stp mask i)
def Kr(mask a b i:Nat):RH mask (a+b) i=RH mask b (RH mask a i):=by
 induction a generalizing i with
 | zero=>rw[EM];rfl
 | succ a c=>rw[Nat.succ_add];exact c (stp mask i)
def Rz{mask j:Nat}:∀{n i:Nat},j∈orb mask n i->∃t,t<n/\RH mask t i=j
 | 0,_,h=>by simp[orb]at h
 | n+1,i,h=>by
  rcases AU.mp h with rfl | h
  .exact⟨0,by lia,rfl⟩
  .obtain⟨t,b,a⟩:=Rz h;exact⟨t+1,by lia,a⟩
def RM(mask:Nat):Prop:=mask=7\/mask=31\/mask=127\/mask=511
def QR(mask:Nat):Bool:=(List.range (mask+1)).all (λj=>(orb mask (mask+1) 0).contains j)&&RH mask (mask+1) 0 == 0
def zFz:QR 7=true:=by decide +kernel
def zCu:QR 31=true:=by decide +kernel
def Zj:QR 127=true:=by decide +kernel
def Zq:QR 511=true:=by decide +kernel
def RM.full{mask:Nat}(h:RM mask):QR mask=true:=by
 rcases h with rfl | rfl | rfl | rfl
 .exact zFz
 .exact zCu
 .exact Zj
 .exact Zq
def cyc{mask:Nat}(h:RM mask){i j:Nat}(hi:i<=mask)(l:j<=mask):∃t,t<=mask/\RH mask t i=j:=by
 have f:=h.full;unfold ST.QR at f;rw[CS,EB]at f;obtain⟨m,d⟩:=f;have d:RH mask (mask+1) 0=0:=by simpa using d
 have c:∀k,k<=mask->∃t,t<mask+1/\RH mask t 0=k:=λk o=>Rz (by simpa using m k (DC.mpr (by lia)));obtain⟨a,p,e⟩:=c i hi;obtain⟨b,q,g⟩:=c j l;by_cases n:a<=b
 .refine⟨b-a,by lia,?_⟩;rw[<-e,<-Kr,show a +(b-a)=b by lia,g]
 .refine⟨mask+1-a+b,by lia,?_⟩;rw[<-e,<-Kr,show a +(mask+1-a+b) =(mask+1)+b by lia,Kr,d,g]
def PK(mask:Nat):Nat->Nat×Nat->Nat×Nat
 | 0,x=>x
 | t+1,x=>PK mask t (SetTable.leap mask x.1 x.2)
def zAy(mask a b:Nat)(x:Nat×Nat):PK mask (a+b) x=PK mask b (PK mask a x):=by
 induction a generalizing x with
 | zero=>rw[EM];rfl
 | succ a c=>rw[Nat.succ_add];exact c _
def Lp(mask:Nat):∀(t:Nat) (x:Nat×Nat),(PK mask t x).2=x.2 / 32^t
 | 0,x=>by simp[PK]
 | t+1,x=>by
  show(PK mask t (SetTable.leap mask x.1 x.2)).2=_;rw[Lp mask t];show x.2 / 32 / 32^t=_;rw[Nat.div_div_eq_div_mul,Nat.pow_succ,Nat.mul_comm]
def Xy(mask:Nat):∀(t:Nat) (x:Nat×Nat),x.1<=mask->(PK mask t x).1<=mask
 | 0,_,h=>h
 | t+1,x,_=>Xy mask t _ (Nat.lt_succ_iff.mp (Nat.mod_lt _ (Nat.succ_pos _)))
def Nb(mask:Nat):∀(t i:Nat),PK mask t (i,0) =(RH mask t i,0)
 | 0,_=>rfl
 | t+1,i=>by
  show PK mask t ((i*5+1+0 / 32) %(mask+1),0 / 32)=_;rw[Nat.zero_div,Nat.add_zero,Nb mask t,Nat.mul_comm];rfl
def Tg{mask:Nat}(h:RM mask){i j p:Nat}(hi:i<=mask)(a:j<=mask)(b:p<2^64):∃t,t<=mask+13/\(PK mask t (i,p)).1=j:=by
 have c:(PK mask 13 (i,p)).2=0:=by
  rw[Lp];exact Nat.div_eq_of_lt (BI b (by decide))
 obtain⟨t,e,d⟩:=cyc h (Xy mask 13 (i,p) hi) a;refine⟨13+t,by lia,?_⟩;rw[zAy];have:PK mask 13 (i,p) =((PK mask 13 (i,p)).1,0):=Prod.ext rfl c;rw[this,Nb];exact d
def NP(t:IK):Nat->SetTable.Probe->SetTable.Probe
 | 0,p=>p
 | n+1,p=>NP t n (t.advance p)
def Tp(t:IK)(a b:Nat)(p:SetTable.Probe):NP t (a+b) p=NP t b (NP t a p):=by
 induction a generalizing p with
 | zero=>rw[EM];rfl
 | succ a c=>rw[Nat.succ_add];exact c _
def Rh(t:IK):∀(m:Nat) (p:SetTable.Probe),p.more=m->∃a,NP t (m+1) p=a/\a.i =(SetTable.leap t.mask p.i p.perturb).1/\a.perturb =(SetTable.leap t.mask p.i p.perturb).2/\a.j=a.i/\a.more=SetTable.runEnd t.mask a.i-a.i/\a.dummy=p.dummy
 | 0,p,h=>by
  have b:t.advance p ={ p with j:=(SetTable.leap t.mask p.i p.perturb).1,more:=SetTable.runEnd t.mask (SetTable.leap t.mask p.i p.perturb).1-(SetTable.leap t.mask p.i p.perturb).1,i:=(SetTable.leap t.mask p.i p.perturb).1,perturb:=(SetTable.leap t.mask p.i p.perturb).2 }:=by
   unfold SetTable.advance;rw[AI (by lia)]
  refine⟨t.advance p,rfl,?_⟩;rw[b];exact⟨rfl,rfl,rfl,rfl,rfl⟩
 | m+1,p,h=>by
  have b:t.advance p ={ p with j:=p.j+1,more:=p.more-1 }:=by unfold SetTable.advance;rw[AN (by lia)]
  obtain⟨a,d,c⟩:=Rh t m (t.advance p) (by rw[b];show p.more-1=m;lia);rw[b]at c;exact⟨a,d,c⟩
def zEp(mask i:Nat):SetTable.runEnd mask i-i<=9:=by unfold SetTable.runEnd;split<;>lia
def Ue(t:IK):∀(n:Nat) (p:SetTable.Probe),p.j=p.i->p.more=SetTable.runEnd t.mask p.i-p.i->∃k,k<=10*n/\(NP t k p).j =(PK t.mask n (p.i,p.perturb)).1
 | 0,p,a,_=>⟨0,by lia,a⟩
 | n+1,p,a,l=>by
  obtain⟨b,e,c,d,f,g,_⟩:=Rh t p.more p rfl;obtain⟨k,m,h⟩:=Ue t n b f g;have:=zEp t.mask p.i;refine⟨p.more+1+k,by lia,?_⟩;rw[Tp,e,h,c,d];rfl
def Gn(t:IK):∀(n:Nat) (p:SetTable.Probe),(NP t n p).dummy=p.dummy
 | 0,_=>rfl
 | n+1,p=>by
  show(NP t n (t.advance p)).dummy=_;rw[Gn t n];unfold SetTable.advance;split<;>rfl
def Qo{t:IK}(a:RM t.mask)(h:Int){j:Nat}(b:j<=t.mask):∃n,n<10*SetTable.turns t.mask/\(NP t n (t.probeStart h)).j=j:=by
 have c:SetTable.bits h<2^64:=by
  unfold SetTable.bits;have g:0<=h %(2^64:Int):=GF _ (by decide);have i:h %(2^64:Int)<2^64:=FC _ (by decide);lia
 have d:SetTable.bits h %(t.mask+1)<=t.mask:=Nat.lt_succ_iff.mp (Nat.mod_lt _ (Nat.succ_pos _));obtain⟨n,l,e⟩:=Tg a d b c;obtain⟨k,m,f⟩:=Ue t n (t.probeStart h) rfl rfl;refine⟨k,by unfold SetTable.turns;lia,f.trans e⟩
def Ad{t:IK}(a:t.dummies = #[])(j:Nat):t.slot j = .empty\/∃i,t.slot j = .live i/\t.place[i]?=some j:=by
 unfold SetTable.slot;dsimp only;by_cases h:(t.place[SetTable.below t.place j]? == some j)=true
 .rw[AN h];exact .inr ⟨_,rfl,by simpa using h⟩
 .rw[AI h];have:SetTable.has t.dummies j=false:=by
   rw[a];unfold SetTable.has;simp
  rw[this];exact .inl rfl
def Oc{t:IK}(c:t.dummies = #[])(f:t.place.size<=t.mask):∃j,j<=t.mask/\t.slot j = .empty:=by
 by_cases h:∃j,j<=t.mask/\t.slot j = .empty
 .exact h
 .exfalso;have a:∀j∈List.range (t.mask+1),j∈t.place.toList:=λj d=>by
   have b:j<=t.mask:=by have:=DC.mp d;lia
   rcases Ad c j with e | ⟨i,_,e⟩
   .exact absurd ⟨j,b,e⟩ h
   .exact BB (by rw[BJ];exact e)
  have:=(List.nodup_range (n:=t.mask+1)).length_le_of_subset a;rw[DX,AS]at this;lia
def Xz{t:IK}(o:t.dummies = #[])(hashAt:Nat->Int)(h:Int)(p:SetTable.Probe)(c:p.dummy=none):∀(k m n a:Nat),m+k=n->t.slot (NP t n p).j = .empty->k<a ->
  (∃j,SetTable.probe.go t hashAt h a (NP t m p)=some (.empty j none)/\t.slot j = .empty) \/
   ∃l i,m<=l/\l<n/\t.slot (NP t l p).j = .live i/\hashAt i=h/\SetTable.probe.go t hashAt h a (NP t m p)=some (.candidate (NP t l p).j i (NP t (l+1) p))
 | k,m,n,0,_,_,q=>absurd q (Nat.not_lt_zero _)
 | k,m,n,a+1,e,r,q=>by
  have d:(NP t m p).dummy=none:=(Gn t m p).trans c;have s:NP t (m+1) p=t.advance (NP t m p):=Tp t m 1 p;rcases Ad o (NP t m p).j with b | ⟨i,b,A⟩
  .refine .inl ⟨(NP t m p).j,?_,b⟩;unfold SetTable.probe.go;rw[b,d]
  .have B:k≠0:=by
    rintro rfl;have:m=n:=by lia
    subst this;rw[r]at b;cases b
   by_cases f:hashAt i=h
   .refine .inr ⟨m,i,VD _,by lia,b,f,?_⟩;unfold SetTable.probe.go;rw[b];dsimp only;rw[AN (by simpa using f),s]
   .have u:SetTable.probe.go t hashAt h (a+1) (NP t m p)=SetTable.probe.go t hashAt h a (NP t (m+1) p):=by
     conv=>lhs;unfold SetTable.probe.go
     rw[b];dsimp only;rw[AI (by simpa using f),s]
    rcases Xz o hashAt h p c (k-1) (m+1) n a (by lia) r (by lia)with⟨j,v,g⟩ | ⟨l,w,v,g,x,y,z⟩
    .exact .inl ⟨j,u.trans v,g⟩
    .exact .inr ⟨l,w,by lia,g,x,y,u.trans z⟩
def Ga{α β:Type}{f g:α->A5 β}:∀{l:A0 α},(∀x∈l,f x=g x)->l.filterMap f=l.filterMap g
 | [],_=>rfl
 | a::r,h=>by
  have b:=h a (AX ..);have c:=Ga (l:=r) λx d=>h x (AL _ d);rw[EW,EW,b,c]
def Ye{α:Type}{f g:Nat->A5 α}{j:Nat}{k:α}(d:g j=some k)(m:f j=none):∀{l:A0 Nat},l.Nodup->j∈l->(∀i,i≠j->g i=f i)->(l.filterMap g).Perm (k::l.filterMap f)
 | [],_,h,_=>by simp at h
 | i::r,o,h,a=>by
  obtain⟨p,q⟩:=CL.mp o;by_cases e:i=j
  .subst e;have s:r.filterMap g=r.filterMap f:=Ga λx t=>a x λz=>p (z▸t);rw[EO d,HC m,s]
  .have n:=Ye d m q ((AU.mp h).resolve_left λz=>e z.symm) a;cases c:f i with
   | none=>rw[HC ((a i e).trans c),HC c];exact n
   | some b =>
    rw[EO ((a i e).trans c),EO c];exact(List.Perm.cons b n).trans (List.Perm.swap _ _ _)
def TC(mask:Nat)(a:HW (A5 Nat)):A0 Nat:=(List.range (mask+1)).filterMap λj=>a.getD j none
structure LI(mask:Nat)(ow:HW (A5 Nat))(k:Nat):Prop where
 sz:ow.size=mask+1
 pm:(TC mask ow).Perm (List.range k)
def Pp{mask:Nat}{b:HW (A5 Nat)}{j:Nat}(c:b[j]?=some none):∀(t a i p:Nat),(PK mask t (i,p)).1=j->t<a->∃d,SetTable.layClean.free mask b a i p=some d/\b[d]?=some none
 | t,0,_,_,_,h=>absurd h (Nat.not_lt_zero _)
 | t,a+1,i,p,e,h=>by
  unfold SetTable.layClean.free;cases q:(List.range (SetTable.runEnd mask i+1-i)).find? λk=>(b.getD (i+k) (some 0)).isNone with
  | some k =>
   refine⟨i+k,rfl,?_⟩;have:=List.find?_some q;rw[CN]at this;cases g:b[i+k]? with
   | none=>rw[g]at this;simp at this
   | some z=>rw[g]at this;simp at this;rw[this]
  | none =>
   dsimp only;cases t with
   | zero =>
    exfalso;have f:i=j:=e;subst f;have l:0∈List.range (SetTable.runEnd mask i+1-i):=DC.mpr (by unfold SetTable.runEnd;split<;>lia);have:=List.find?_eq_none.mp q 0 l;rw[CN,Nat.add_zero,c]at this;simp at this
   | succ t=>exact Pp c t a _ _ e (by lia)
def LI.room{mask:Nat}{a:HW (A5 Nat)}{k:Nat}(h:LI mask a k)(p:k<=mask):∃j,j<=mask/\a[j]?=some none:=by
 by_cases q:∃j,j<=mask/\a[j]?=some none
 .exact q
 .exfalso;have b:∀j∈List.range (mask+1),∃v,a.getD j none=some v:=λj c=>by
   have g:j<a.size:=by rw[h.sz];exact DC.mp c
   cases e:a[j]? with
   | none=>rw[Array.getElem?_eq_none_iff]at e;lia
   | some v =>
    cases v with
    | none=>exact absurd ⟨j,by have:=DC.mp c;lia,e⟩ q
    | some v=>exact⟨v,by rw[CN,e];rfl⟩
  have i:∀l:A0 Nat,(∀j∈l,∃v,a.getD j none=some v)->(l.filterMap λj=>a.getD j none).length=l.length:=by
   intro l
   induction l with
   | nil=>intro _;rfl
   | cons j r m =>
    intro d;obtain⟨v,n⟩:=d j (AX ..);rw[EO (f:=λj=>a.getD j none) n,BR,BR,m λx o=>d x (AL _ o)]
  have:=h.pm.length_eq;unfold TC at this;rw[i _ b,DX,DX]at this;lia
def LI.put{mask:Nat}{a:HW (A5 Nat)}{k j:Nat}(h:LI mask a k)(c:a[j]?=some none):LI mask (a.setIfInBounds j (some k)) (k+1):=by
 have b:j<a.size:=by
  obtain⟨d,_⟩:=CV.mp c;exact d
 refine⟨by rw[HB];exact h.sz,?_⟩;have p:=Ye (f:=λj=>a.getD j none) (g:=λi=>(a.setIfInBounds j (some k)).getD i none) (j:=j) (k:=k) (by rw[CN,Array.getElem?_setIfInBounds_self_of_lt b];rfl) (by rw[CN,c];rfl)
  (l:=List.range (mask+1)) List.nodup_range (DC.mpr (by rw[<-h.sz];exact b)) λi m=>by
   rw[CN,Array.getElem?_setIfInBounds_ne (Ne.symm m),<-CN]
 have e:List.range (k+1)=List.range k ++ [k]:=List.range_succ;refine p.trans ?_;rw[e];exact(List.Perm.cons k h.pm).trans (CY (l₁:=[k]))
def Zx(h:Int):SetTable.bits h<2^64:=by
 unfold SetTable.bits;have a:0<=h %(2^64:Int):=GF _ (by decide);have b:h %(2^64:Int)<2^64:=FC _ (by decide);lia
def Xs{mask:Nat}(e:RM mask):∀(c:A0 Int) (a:HW (A5 Nat)) (k:Nat),LI mask a k->k+c.length<=mask->∃b,(c.foldl (init:=some (a,k)) λd h=>do
   let(owner,k) <-d
   let j <-SetTable.layClean.free mask owner (SetTable.turns mask) (SetTable.bits h %(mask+1)) (SetTable.bits h)
   pure (owner.setIfInBounds j (some k),k+1))=some (b,k+c.length)/\LI mask b (k+c.length)
 | [],a,k,h,_=>⟨a,rfl,h⟩
 | x::r,a,k,h,g=>by
  rw[BR]at g;obtain⟨j,l,m⟩:=h.room (by lia);obtain⟨t,u,n⟩:=Tg e (i:=SetTable.bits x %(mask+1)) (j:=j) (Nat.lt_succ_iff.mp (Nat.mod_lt _ (Nat.succ_pos _))) l (Zx x);obtain⟨f,o,p⟩:=Pp m t (SetTable.turns mask) _ _ n (by unfold SetTable.turns;lia);obtain⟨b,q,s⟩:=Xs e r (a.setIfInBounds f (some k)) (k+1) (h.put p) (by lia);refine⟨b,?_,by rw[BR,show k +(r.length+1)=k+1+r.length by lia];exact s⟩;rw[GA];show List.foldl _ ((SetTable.layClean.free mask a (SetTable.turns mask) (SetTable.bits x %(mask+1)) (SetTable.bits x)).bind λj=>some (a.setIfInBounds j (some k),k+1)) r=_;rw[o];show List.foldl _ (some (a.setIfInBounds f (some k),k+1)) r=_;rw[BR,show k +(r.length+1)=k+1+r.length by lia];exact q
def Zr{mask:Nat}(h:RM mask)(finger moves:Nat)(led plain:Bool)(c:HW Int)(l:c.size<=mask) :
  ∃place a,SetTable.laid mask finger moves led plain c=some ({ mask,place,dummies:=#[],finger,led,moves,plain },a)/\place.size=c.size/\a.toList.Perm (List.range c.size):=by
 have i:LI mask (Array.replicate (mask+1) none) 0:=by
  refine⟨Array.size_replicate,?_⟩;have:TC mask (Array.replicate (mask+1) none) = []:=by
   unfold TC;rw[List.filterMap_eq_nil_iff];intro j m;rw[CN,Array.getElem?_replicate];split<;>rfl
  rw[this];exact List.Perm.refl _
 obtain⟨b,e,d⟩:=Xs h c.toList _ 0 i (by rw[AS];lia);rw[EM,AS]at e d;have k:SetTable.layClean mask c=some b:=by
  unfold SetTable.layClean;rw[<-Array.foldl_toList,e];rfl
 have g:((List.range (mask+1)).filterMap λj=>(b.getD j none).map (j,·)).map (·.2)=TC mask b:=by
  unfold TC;rw[List.map_filterMap];refine Ga λj _=>?_;cases b.getD j none<;>rfl
 refine⟨(((List.range (mask+1)).filterMap λj=>(b.getD j none).map (j,·)).map (·.1)).toArray,(((List.range (mask+1)).filterMap λj=>(b.getD j none).map (j,·)).map (·.2)).toArray,?_,?_,?_⟩
 .unfold SetTable.laid;rw[k];rfl
 .rw[AR,AB,<-AB (f:=(·.2)),g,d.pm.length_eq,DX]
 .show(((List.range (mask+1)).filterMap λj=>(b.getD j none).map (j,·)).map (·.2)).Perm _;rw[g];exact d.pm
def Ur{c:HW (Int×A2)}{b:HW Nat}(h:b.toList.Perm (List.range c.size)):(b.filterMap (c[·]?)).toList.Perm c.toList:=by
 rw[Array.toList_filterMap];refine(h.filterMap _).trans (FE ?_);refine FI λt=>?_;have:(List.range c.size).filterMap (λx=>c[x]?)=c.toList:=by
  have:∀(l:A0 (Int×A2)),(List.range l.length).filterMap (λx=>l[x]?)=l:=by
   intro l
   induction l with
   | nil=>rfl
   | cons a r d =>
    rw[BR,List.range_succ_eq_map,EO (by rfl:(a::r)[0]?=some a),List.filterMap_map];congr 1
  have q:=this c.toList;rw[AS]at q;simpa using q
 rw[this]
section
variable{prog:HX}{w:HZ}{K:Type}[DecidableEq K]{knd:KeyKind prog w K}{A:IE}{E:A2->A4->Prop}{s:A4}
structure SD(t:IK)(n:Nat):Prop where
 dm:t.dummies = #[]
 pl:t.place.size=n
 mm:RM t.mask
 rm:n*5<t.mask*3
theorem SD.fits{t:IK}{n:Nat}(h:SD t n):t.fits n=true:=by
 have:=h.rm;have:=h.pl;unfold SetTable.fits SetTable.fill;rw[h.dm];simp;lia
theorem SD.odd{t:IK}{n:Nat}(h:SD t n):t.gaveWay=false:=by
 unfold SetTable.gaveWay;rcases h.mm with e | e | e | e<;>rw[e]<;>rfl
def SS(knd:KeyKind prog w K)(a:HW (Int×A2))(b:A0 (A0 K×A3)):Prop:=a.toList.Perm (b.map λq=>((tupleKind knd).hash q.1,Value.ref q.2))
def NC(knd:KeyKind prog w K)(h:IC)(a:A3)(c:A0 (A0 K×A3)):Prop:=∃o b d t,h.get? a=some o/\o.ExactSet/\o.data = .set b d t/\SS knd b c/\SD t b.size
theorem SS.get{a:HW (Int×A2)}{b:A0 (A0 K×A3)}(h:SS knd a b){i:Nat}{e:Int×A2}(c:a[i]?=some e):∃k p,(k,p)∈b/\e =((tupleKind knd).hash k,.ref p):=by
 have:e∈a.toList:=BB (by rw[BJ];exact c);obtain⟨q,d,rfl⟩:=BK.mp (h.mem_iff.mp this);exact⟨q.1,q.2,d,rfl⟩
theorem Bp{β:Type}{c:β}{f:A2->β->Sem (ForInStep β)}:∀{l:A0 A2},(∀y∈l,f y c=pure (.yield c))->forIn l c f=pure c
 | [],_=>List.forIn_nil
 | a::r,h=>by
  rw[List.forIn_cons,h a (AX ..),pure_bind];exact Bp λy b=>h y (AL _ b)
theorem Iy{a:A0 K}{vs:A0 A2}(h:ItemsAre knd a vs):∀v∈vs,∃x,knd.is x v=true:=by
 induction h with
 | nil=>intro v hv;simp at hv
 | cons b _ c =>
  intro v hv;rcases AU.mp hv with rfl | hv
  .exact⟨_,b⟩
  .exact c v hv
def Flat(knd:KeyKind prog w K):Prop:=∀v,(∃x,knd.is x v=true)->carriedByValue v=true
theorem Flat.no{v:A2}(a:Flat knd)(h:∃x,knd.is x v=true)(d:Nat):ofAClassStatement d v=pure false:=by
 have:=a v h;cases v<;>first
  | (cases d<;>rfl)
  | (exact absurd this (by intro z;cases z))
theorem Xr{k:A0 K}{p:A3}{Q:Bool->A4->Prop}(c:Flat knd)(d:(tupleKind knd).is s.heap k p)(h:Q false s):wpAny (model prog w) A (ofAClassStatement 8 (.ref p)) Q E s:=by
 obtain⟨o,a,n,b,e,f,g⟩:=d;have i:s.TypeIs (.ref p) "tuple":=⟨o,b,e⟩;unfold ofAClassStatement;refine AA (EY i ?_);dsimp only;rw[AN (by rfl)];refine AA (AD ?_);simp only[EN,BD,CO];refine AA (DZ b f ?_);dsimp only;rw[<-Array.forIn_toList,Bp λy j=>by rw[c.no (Iy g y j)];rfl];exact AA (AD (AD h))
theorem zDh{m:A0 K}{b:A3}{Q:Bool->A4->Prop}(g:Flat knd)(i:(tupleKind knd).is s.heap m b)(h:Q false s){l:A0 A2}(n:∀v∈l,∃k p,v = .ref p/\(tupleKind knd).is s.heap k p) :
  wpAny (model prog w) A (searchCouldBeSeen (.ref b) l) Q E s:=by
 unfold searchCouldBeSeen;refine AA (wpAny_forIn_list _ (λa c d=>d=s/\c =(none,())/\∀v∈a,v∈l) _ ?_ ?_ l _ ⟨rfl,rfl,λ_ h=>h⟩)
 .rintro v a c d ⟨rfl,rfl,e⟩;obtain⟨k,p,rfl,j⟩:=n v (e v (AX ..));dsimp only;have o:carriedByValue (Value.ref b)=false:=rfl;rw[o,DP,Bool.or_false];split
  .exact AD ⟨rfl,rfl,λu f=>e u (AL _ f)⟩
  .refine AA ((tupleKind knd).quiet i ?_);simp only[EN,BD,CO];refine AA ((tupleKind knd).quiet j ?_);simp only[EN,BD,CO];refine AA (Xr g i ?_);simp only[BD,CO];refine AA (Xr g j ?_);simp only[BD,CO];exact AD ⟨rfl,rfl,λu f=>e u (AL _ f)⟩
 .rintro c d ⟨rfl,rfl,_⟩;exact AD h
theorem Xc(t:IK):t.sameMemory t.moves t.mask=some true:=by
 unfold SetTable.sameMemory;simp
theorem Jj{a:A3}{o:Obj}{r:HW (Int×A2)}{ep:Nat}{t:IK}{M:A0 (A0 K×A3)}{d:A0 K}{G:A3}{c:Bool}{Q:SetFound->A4->Prop}{n:Nat}
  (hr:(tupleKind knd).room A) (hF:Flat knd) (V:s.heap.get? a=some o) (W:o.data = .set r ep t) (X:SS knd r M) (D:SD t r.size)
  (H:∀q∈M,(tupleKind knd).is s.heap q.1 q.2) (Y:(tupleKind knd).is s.heap d G) (N:∀q∈M,q.1≠d) (hn:n<10*SetTable.turns t.mask)
  (he:t.slot (NP t n (t.probeStart ((tupleKind knd).hash d))).j = .empty) (h:∀j,t.slot j = .empty->Q (.free j false) s) :
  ∀(k m b:Nat) (e:A5 SetTable.Probe),e.getD (t.probeStart ((tupleKind knd).hash d))=NP t m (t.probeStart ((tupleKind knd).hash d))->m+k=n->k<b ->
   wpAny (model prog w) A (setSearchFrom a (.ref G) ((tupleKind knd).hash d) c b e) Q E s:=by
 intro k
 induction k using Nat.strongRecOn with
 | _ k ih =>
  intro m b e O P hf;cases b with
  | zero=>lia
  | succ b =>
   unfold setSearchFrom;refine AA (CD V W D.fits ?_);dsimp only;rw[D.odd];simp only[BD,CO];rw[O];unfold SetTable.probe;rcases Xz D.dm _ ((tupleKind knd).hash d) (t.probeStart ((tupleKind knd).hash d)) rfl k m n (10*SetTable.turns t.mask) P he (by lia)with⟨j,F,Z⟩ | ⟨l,i,h1,h2,F,Z,e3⟩
   .rw[F];dsimp only;exact AD (h j Z)
   .rw[e3];dsimp only;obtain⟨u,I,R⟩:∃u,t.slot (NP t l (t.probeStart ((tupleKind knd).hash d))).j = .live u/\t.place[u]?=some (NP t l (t.probeStart ((tupleKind knd).hash d))).j:=by
     rcases Ad D.dm (NP t l (t.probeStart ((tupleKind knd).hash d))).j with z | z
     .rw[z]at F;cases F
     .exact z
    rw[F]at I;cases I;have S:i<r.size:=by
     have:=(CV.mp R).1;rw[D.pl]at this;exact this
    obtain⟨J,f⟩:∃J,r[i]?=some J:=⟨r[i],CV.mpr ⟨S,rfl⟩⟩;obtain⟨k',p',L,rfl⟩:=X.get f;have B:∀v∈(r.filter (·.1 ==(tupleKind knd).hash d)).toList.map (·.2),∃k p,v = .ref p/\(tupleKind knd).is s.heap k p:=by
     intro v hv;obtain⟨z,hz,rfl⟩:=BK.mp hv;have T:z∈r.toList:=by
      rw[Array.toList_filter]at hz;exact(AY.mp hz).1
     obtain⟨q,hq,rfl⟩:=BK.mp (X.mem_iff.mp T);exact⟨q.1,q.2,rfl,H q hq⟩
    have x:wpAny (model prog w) A (do
      let some (_,y):=r[i]? | unsupported "internal:set-entry"
      let g <-holding [y] (eqBool y (.ref G))
      let(U,_,t') <-setState a
      if c&&g then return .there none
      let some same:=t'.sameMemory t.moves t.mask | unsupported "set.changed-during-lookup:is-the-new-block-at-the-old-address"
      let C <-match(if same then t'.slot (NP t l (t.probeStart ((tupleKind knd).hash d))).j else .empty)with
       | .live u=>match U[u]? with
        | some (_,y')=>do pure (if <-isSame y' y then some u else none)
        | none=>pure none
       | _=>pure none
      match C with
      | none=>rule "set.search.anew";setSearchFrom a (.ref G) ((tupleKind knd).hash d) c b none
      | some u=>if g then return .there (some u)else setSearchFrom a (.ref G) ((tupleKind knd).hash d) c b (some (NP t (l+1) (t.probeStart ((tupleKind knd).hash d))))) Q E s:=by
     rw[f];dsimp only;refine AA (BP ((tupleKind knd).eqBool hr (H _ L) Y ?_));rw[AM (N _ L)];refine AA (CD V W D.fits ?_);dsimp only;rw[Xc,HJ];simp only[BD,CO,GM];rw[F];dsimp only;rw[f];dsimp only;refine AA (wpAny_isSame_ref_self (AA (AD ?_)));simp only[GM];exact ih (n-(l+1)) (by lia) (l+1) b _ rfl (by lia) (by lia)
    cases hled:t.led with
    | true =>
     simp only[EN,BD,CO];exact x
    | false =>
     simp only[HK,GM];refine AA (zDh hF Y ?_ B);simp only[BD,CO];exact x
theorem Cu{a:A3}{o:Obj}{f:HW (Int×A2)}{ep:Nat}{t:IK}{g:A0 (A0 K×A3)}{d:A0 K}{l:A3}{b:Bool}{Q:SetFound->A4->Prop}
  (m:(tupleKind knd).room A) (p:Flat knd) (r:s.heap.get? a=some o) (u:o.data = .set f ep t) (v:SS knd f g) (c:SD t f.size)
  (i:∀q∈g,(tupleKind knd).is s.heap q.1 q.2) (x:(tupleKind knd).is s.heap d l) (k:∀q∈g,q.1≠d) (h:∀j,t.slot j = .empty->Q (.free j false) s) :
  wpAny (model prog w) A (setSearch a (.ref l) ((tupleKind knd).hash d) b) Q E s:=by
 obtain⟨j,y,z⟩:=Oc c.dm (by rw[c.pl];have:=c.rm;lia);obtain⟨n,B,e⟩:=Qo c.mm ((tupleKind knd).hash d) y;unfold setSearch;refine Jj m p r u v c i x k B (by rw[e];exact z) h n 0 100000 none rfl (by lia) ?_;have:SetTable.turns t.mask<=526:=by
  unfold SetTable.turns;rcases c.mm with e | e | e | e<;>lia
 lia
theorem NC.typeIs{a:A3}{b:A0 (A0 K×A3)}(h:NC knd s.heap a b):s.TypeIs (.ref a) "set":=let⟨o,_,_,_,c,d,_⟩:=h;⟨o,c,d.1⟩
theorem Qz{a:A3}{b:HW (Int×A2)}:byScan (.ref a) b=false:=rfl
theorem Tw{a:A3}{b:A0 (A0 K×A3)}{c:A0 K}{f:A3}{Q:A5 Nat->A4->Prop}(l:(tupleKind knd).room A)(m:Flat knd)(n:NC knd s.heap a b)
  (d:∀q∈b,(tupleKind knd).is s.heap q.1 q.2) (p:(tupleKind knd).is s.heap c f) (e:∀q∈b,q.1≠c) (h:Q none s):wpAny (model prog w) A (setFind a (.ref f) ((tupleKind knd).hash c)) Q E s:=by
 obtain⟨o,u,v,t,g,_,i,r,k⟩:=n;unfold setFind setFindIn;refine AA (CD g i k.fits ?_);dsimp only;rw[Qz];simp only[BD,CO];refine AA (Cu l m g i r k d p e λj _=>?_);dsimp only;exact AD h
theorem RT{neg:Bool}{a:A3}{d:A0 (A0 K×A3)}{b:A0 K}{e:A3}{Q:A2->A4->Prop}(i:A.units+1<cLine)(k:Flat knd)(c:NC knd s.heap a d)
  (f:∀q∈d,(tupleKind knd).is s.heap q.1 q.2) (j:(tupleKind knd).is s.heap b e) (g:∀q∈d,q.1≠b) (h:Q (.bool false) { s with toks:=s.toks +(tupleKind knd).draws b }) :
  wpAny (model prog w) A (compareOp .In (.ref e) (.ref a)) Q E s:=by
 show wpAny _ _ (do return .bool (<-contains (.ref a) (.ref e))) Q E s;refine AA ?_;unfold contains
 try with_reducible refine BP ?_
 refine AA (GE c.typeIs F.slot_set_contains.lookup ?_);show wpAny _ _ (if(some (Value.builtin "set.__contains__") == some Value.none)=true then _ else _) _ E s;rw[AI (by rw[beq_builtin_none];exact BE)];refine AA (wpAny_callSpecialUnlessNone?_slot (name:=Str.ofString "__contains__") c.typeIs F.slot_set_contains
  (CF F.slot_set_contains c.typeIs entry_set_contains ?_ (F.args_set_contains_2 _ _)))
 unfold Builtin.«frozenset.__contains__» Builtin.Frozenset.oneOther;simp only[List.isEmpty_nil,bind_assoc];unfold Builtin.Frozenset.addrOf Builtin.Frozenset.withSetAsKey setContains;refine AA (AD ?_)
 try dsimp only
 refine AA (AD ?_)
 try dsimp only
 refine AA (wpAny_tryCatch ?_);refine BP ?_;refine AA ((tupleKind knd).pyHash ?hroom j ?_)
 case hroom=>exact i
 refine AA (Tw (s:={ s with toks:=s.toks +(tupleKind knd).draws b }) ?hroom k c f j g ?_)
 case hroom=>exact i
 refine AD ?_;show wpAny _ _ (ret (Value.bool false)) _ _ _;exact AD ⟨_,rfl,C_ (AD h)⟩
def RZ(knd:KeyKind prog w K):Prop:=∀v,(∃x,knd.is x v=true)->v.scannable=true
theorem hbv{j:A0 K}{f:A3}{Q:Bool->A4->Prop}(k:RZ knd)(l:(tupleKind knd).is s.heap j f)(h:∀b,Q b s):wpAny (model prog w) A (hashByValue 8 (.ref f)) Q E s:=by
 obtain⟨o,d,n,g,m,p,r⟩:=l;have t:s.TypeIs (.ref f) "tuple":=⟨o,g,m⟩;unfold hashByValue;refine AA (GE t F.slot_tuple_hash.lookup ?_);dsimp only;refine AA (DZ g p ?_);dsimp only[Option.getD_some];rw[<-Array.forIn_toList];refine AA (B_ (wpAny_forIn_list _ (λa c e=>e=s/\c =(none,())/\∀v∈a,v∈d.toList) (λc e=>e=s/\(c =(none,())\/c =(some false,()))) ?_ ?_ _ _ ⟨rfl,rfl,λ_ z=>z⟩) ?_ λ_ _ q=>q)
 .rintro v a c e ⟨rfl,rfl,i⟩;rw[hashByValue_scannable _ (k v (Iy r v (i v (AX ..))))];refine AA (AD ?_);cases plainKind v with
  | true =>
   simp only[EN,BD,CO];exact AD ⟨rfl,rfl,λu x=>i u (AL _ x)⟩
  | false =>
   simp only[HK,GM];exact AD ⟨rfl,.inr rfl⟩
 .rintro c e ⟨rfl,rfl,_⟩;exact⟨rfl,.inl rfl⟩
 .rintro c e ⟨rfl,rfl | rfl⟩
  .exact AD (h _)
  .exact AD (h _)
theorem w8{α:Type}(xs:HW α)(p:Nat)(x:α)(a:p<=xs.size):(SetTable.insertAt xs p x).size=xs.size+1:=by
 unfold SetTable.insertAt;rw[HL,Array.size_push,FW,FW];lia
theorem Ex{α:Type}(xs:HW α)(p:Nat)(x:α)(b:p<=xs.size):(SetTable.insertAt xs p x).toList.Perm (xs.toList ++ [x]):=by
 unfold SetTable.insertAt;rw[BT,DE,ER,ER];simp only[EH,EC,Nat.sub_zero];have e:List.take (xs.size-p) (List.drop p xs.toList)=List.drop p xs.toList:=by
  rw[DU];rw[DK,AS];lia
 rw[e];have a:xs.toList=xs.toList.take p++xs.toList.drop p:=(BX ..).symm
 conv=>rhs;rw[a]
 rw[BG,BG];exact CZ _ CY
theorem n6(xs:HW Nat)(j:Nat):∀(f lo hi:Nat),lo<=hi->SetTable.below.go xs j f lo hi<=hi
 | 0,lo,hi,h=>h
 | f+1,lo,hi,h=>by
  unfold SetTable.below.go;split
  .rename_i a;dsimp only;split
   .exact n6 xs j f _ _ (by lia)
   .exact VE (n6 xs j f _ _ (by lia)) (by lia)
  .exact h
theorem Vk(xs:HW Nat)(j:Nat):SetTable.below xs j<=xs.size:=n6 xs j _ _ _ (CB _)
theorem zDo{t:IK}(a:t.dummies = #[])(j:Nat):t.put j =({ t with place:=SetTable.insertAt t.place (SetTable.below t.place j) j },SetTable.below t.place j):=by
 unfold SetTable.put;have:SetTable.has t.dummies j=false:=by
  rw[a];unfold SetTable.has;simp
 rw[this];rfl
theorem zIi:SetTable.sizeAbove 20=32:=by decide
theorem zIh:SetTable.sizeAbove 76=128:=by decide
theorem zGz:SetTable.sizeAbove 308=512:=by decide
theorem Wv{f:HW (Int×A2)->A5 (IK×HW Nat)->Sem (HW (Int×A2)×IK)}(y:∀c g,f c g =(do
  let some (t,b):=g | unsupported "internal:set-table-without-room"
  let d:=b.filterMap (c[·]?)
  if d.size != c.size then unsupported "internal:set-table-lost-an-element"
  pure (d,t)))
  {a:A3} {o:Obj} {c:HW (Int×A2)} {ep:Nat} {t:IK} {n m:Nat} {Q:Unit->A4->Prop} (q:s.heap.get? a=some o) (r:o.data = .set c ep t) (z:t.dummies = #[]) (j:t.fits c.size=true)
  (l:SetTable.sizeAbove n=m+1) (i:RM m) (hsz:c.size*5<m*3)
  (h:∀(d:HW (Int×A2)) (t':IK),d.toList.Perm c.toList->SD t' d.size->Q () { s with heap:=s.heap.update a (Obj.putSet d t') }) :
  wpAny (model prog w) A (do
   let(c,_,t) <-setState a
   if SetTable.sizeAbove n>sizeLine then unsupported "set:memory"
   let(c,t) <-f c (t.relaid (c.map (·.1)) n)
   storeSet a c t) Q E s:=by
 refine AA (CD q r j ?_);dsimp only;have p:m<=511:=by rcases i with e | e | e | e<;>lia
 rw[l,AI (by rw[sizeLine_eq];lia)];rw[y];have B:(c.map (·.1)).size<=m:=by rw[HH];lia
 obtain⟨place,b,u,C,v⟩:=Zr i t.finger (t.movedTo (SetTable.sizeAbove n-1)) t.led t.plain (c.map (·.1)) B;have D:t.relaid (c.map (·.1)) n=some ({ mask:=m,place,dummies:=#[],finger:=t.finger,led:=t.led,moves:=t.movedTo (SetTable.sizeAbove n-1),plain:=t.plain },b):=by
  unfold SetTable.relaid;rw[l];rw[l]at u;exact u
 rw[D];dsimp only;have x:(b.filterMap (c[·]?)).toList.Perm c.toList:=Ur (by rw[HH]at v;exact v);have k:(b.filterMap (c[·]?)).size=c.size:=by rw[<-AS,x.length_eq,AS]
 rw[AI (by rw[k];simp)];refine AA (AD ?_);dsimp only;refine HM q r (h _ _ x ⟨rfl,?_,i,?_⟩) (by rw[k,sizeLine_eq];lia)
 .rw[k,C,HH]
 .rw[k];exact hsz
theorem Fr{h:IC}{a:A3}{o:Obj}{d:HW (Int×A2)}{ep:Nat}{t:IK}(e:h.get? a=some o)(c:o.data = .set d ep t)(b:HW (Int×A2))(t':IK) :
  (h.update a (Obj.putSet b t')).get? a=some { o with data:=.set b (ep+1) t' }:=by
 have:=BZ (Obj.putSet b t') e (by rw[putSet_of b t' c];rfl);rw[putSet_of b t' c]at this;exact this
theorem Ov{a:A3}{p:A0 (A0 K×A3)}{g:A0 K}{l:A3}{Q:Bool->A4->Prop}(W:(tupleKind knd).room A)(X:Flat knd)(Y:RZ knd)(Z:NC knd s.heap a p)
  (J:∀q∈p,(tupleKind knd).is s.heap q.1 q.2) (T:(tupleKind knd).is s.heap g l) (L:∀q∈p,q.1≠g) (hl:p.length+1<=300)
  (h:∀h',Heap.SameBut a s.heap h'->NC knd h' a (p ++ [(g,l)])->Q true { s with heap:=h' }) :
  wpAny (model prog w) A (setAddHashed a (.ref l) ((tupleKind knd).hash g)) Q E s:=by
 obtain⟨o,c,ep,t,z,B,C,M,i⟩:=Z;have hsz:c.size=p.length:=by
  have:=M.length_eq;rw[AS,AB]at this;exact this
 unfold setAddHashed setAddHashedIn;refine BP ?_;refine AA (CD z C i.fits ?_);dsimp only;rw[Qz];simp only[BD,CO];refine AA (Cu W X z C M i J T L λj hj=>?_);dsimp only;refine AA (CD z C i.fits ?_);dsimp only;rw[zDo i.dm];dsimp only;have N:=Vk t.place j;have D:SetTable.below t.place j<=c.size:=by rw[i.pl]at N;exact N
 have hrm:=i.rm;have r:=i.mm;have d:=w8 c (SetTable.below t.place j) ((tupleKind knd).hash g,Value.ref l) D;have O:=Ex c (SetTable.below t.place j) ((tupleKind knd).hash g,Value.ref l) D;have F:∀f:HW (Int×A2),f.toList.Perm (SetTable.insertAt c (SetTable.below t.place j) ((tupleKind knd).hash g,Value.ref l)).toList->SS knd f (p ++ [(g,l)]):=λf P=>by
  unfold SS;rw[AJ];exact P.trans (O.trans (M.append_right _))
 have u:∀n:IK,n.dummies = #[]->n.mask=t.mask->n.place.size=c.size+1->wpAny (model prog w) A (do
   storeSet a (SetTable.insertAt c (SetTable.below t.place j) ((tupleKind knd).hash g,Value.ref l)) n
   if(!false&&n.tooFull)=true then do
    setRelay a (SetTable.grown (c.size+1))
    pure true
   else pure true) Q E s:=by
  intro n H I R;refine AA (HM z C ?_ (by rw[d,sizeLine_eq];lia));have v:=Fr z C (SetTable.insertAt c (SetTable.below t.place j) ((tupleKind knd).hash g,Value.ref l)) n;have G:=DN s.heap a (Obj.putSet (SetTable.insertAt c (SetTable.below t.place j) ((tupleKind knd).hash g,Value.ref l)) n);have S:n.tooFull=decide ((c.size+1)*5 ≥ t.mask*3):=by
   unfold SetTable.tooFull SetTable.fill;rw[H,I,R];rfl
  rw[S,HK,HV];by_cases k:(c.size+1)*5 ≥ t.mask*3
  .rw[AQ k,AN rfl];have x:∃m,SetTable.sizeAbove (SetTable.grown (c.size+1))=m+1/\RM m/\(c.size+1)*5<m*3:=by
    have hg:SetTable.grown (c.size+1) =(c.size+1)*4:=by
     unfold SetTable.grown;rw[AI (by lia)]
    rw[hg];rcases r with e | e | e | e
    .have:c.size+1=5:=by lia
     rw[this];exact⟨31,zIi,.inr (.inl rfl),by decide⟩
    .have:c.size+1=19:=by lia
     rw[this];exact⟨127,zIh,.inr (.inr (.inl rfl)),by decide⟩
    .have:c.size+1=77:=by lia
     rw[this];exact⟨511,zGz,.inr (.inr (.inr rfl)),by decide⟩
    .lia
   obtain⟨m,c1,c2,c3⟩:=x;refine AA ?_;unfold setRelay;refine Wv (λ_ _=>rfl) (s:={ s with heap:=_ }) v rfl H ?_ c1 c2 (by rw[d];exact c3) λf U P ht=>?_
   .unfold SetTable.fits SetTable.fill;rw[d,R,H,I];have V:c.size+1+0<=t.mask:=by rcases r with e | e | e | e<;>lia
    simp;lia
   .refine AD (h _ (G.trans (DN _ a _)) ?_);exact⟨_,f,_,U,Fr v rfl f U,B,rfl,F f P,ht⟩
  .rw[AM k,AI (by decide)];refine AD (h _ G ⟨_,_,_,n,v,B,rfl,F _ (.refl _),⟨H,?_,?_,?_⟩⟩)
   .rw[R,d]
   .rw[I];exact r
   .rw[I,d];lia
 have y:(SetTable.insertAt t.place (SetTable.below t.place j) j).size=c.size+1:=by rw[w8 _ _ _ N,i.pl]
 cases hpl:t.plain with
 | true =>
  simp only[GM];refine AA (hbv Y T λb=>?_);cases b with
  | true =>
   simp only[GM];exact u _ i.dm rfl y
  | false =>
   simp only[BD,CO];exact u _ i.dm rfl y
 | false =>
  simp only[BD,CO];refine AA (AD ?_);simp only[GM];exact u _ i.dm rfl y
theorem RE{a:A3}{b:A0 (A0 K×A3)}{c:A0 K}{d:A3}{Q:A2->A4->Prop}(j:A.units+1<cLine)(m:Flat knd)(n:RZ knd)(k:NC knd s.heap a b)
  (e:∀q∈b,(tupleKind knd).is s.heap q.1 q.2) (l:(tupleKind knd).is s.heap c d) (f:∀q∈b,q.1≠c) (o:b.length+1<=300)
  (h:∀h',Heap.SameBut a s.heap h'->NC knd h' a (b ++ [(c,d)])->Q .none { s with heap:=h',toks:=s.toks +(tupleKind knd).draws c }) :
  wpAny (model prog w) A (call (.builtin "set.add") [.ref a,.ref d]) Q E s:=by
 refine CF F.slot_set_add k.typeIs F.entry_set_add ?_ (F.args_set_add_2 _ _);unfold Builtin.«set.add» Builtin.Frozenset.oneOther;simp only[List.isEmpty_nil,bind_assoc];unfold Builtin.Frozenset.addrOf setAdd;refine AA (AD ?_)
 try dsimp only
 refine AA (AD ?_)
 try dsimp only
 refine AA ?_;refine BP ?_;refine AA ((tupleKind knd).pyHash ?hroom l ?_)
 case hroom=>exact j
 refine Ov (s:={ s with toks:=s.toks +(tupleKind knd).draws c }) ?hroom m n k e l f o λh' g i=>?_
 case hroom=>exact j
 show wpAny _ _ (ret Value.none) _ _ _;exact AD ⟨_,rfl,h h' g i⟩
end
def Mz:Manifest.owners.lookup (String.ofList ['r','o','t','a','r','e','t','i','_','t','e','s'].reverse)=some Manifest.sig_set_iterator:=by kernel_rfl
def JM:Slot "set_iterator" "__next__" "set_iterator.__next__" :=
 .of (owner := "set_iterator") (n := "__next__") (by rw[typeLookup_type,builtinLookup_eq_fast];kernel_rfl) (by decide +kernel) (by decide +kernel) (by decide +kernel) (by first | exact .inl (by decide +kernel) | exact .inr (by decide +kernel)) (by rw[isSubtype_type];kernel_rfl)
def r8:entryFor table "set_iterator.__next__" = some Builtin.«set_iterator.__next__»:=entryFor_of_tree (by kernel_rfl)
def Al(a:A2):argsOk "set_iterator.__next__" ⟨[a],[]⟩:=by
 unfold argsOk;rw[signature?_of (id := "set_iterator.__next__") (n:=['_','_','t','x','e','n','_','_']) (o:=['r','o','t','a','r','e','t','i','_','t','e','s']) (by kernel_rfl) Mz];kernel_rfl
def Ao:Slot "set_iterator" "__iter__" "set_iterator.__iter__" :=
 .of (owner := "set_iterator") (n := "__iter__") (by rw[typeLookup_type,builtinLookup_eq_fast];kernel_rfl) (by decide +kernel) (by decide +kernel) (by decide +kernel) (by first | exact .inl (by decide +kernel) | exact .inr (by decide +kernel)) (by rw[isSubtype_type];kernel_rfl)
def Gx(a:A2):argsOk "set_iterator.__iter__" ⟨[a],[]⟩:=by
 unfold argsOk;rw[signature?_of (id := "set_iterator.__iter__") (n:=['_','_','r','e','t','i','_','_']) (o:=['r','o','t','a','r','e','t','i','_','t','e','s']) (by kernel_rfl) Mz];kernel_rfl
def Fb:entryFor table "set_iterator.__iter__" = some Builtin.«dict_keyiterator.__iter__» :=
 entryFor_alias (id' := "dict_keyiterator.__iter__") (by kernel_rfl) (by first | rfl | decide +kernel | (unfold String.splitOn;simp +decide [String.splitOnAux])) (by decide +kernel) (by kernel_rfl)
def Hv:entryFor table "set.__iter__" = some Builtin.«frozenset.__iter__» :=
 entryFor_alias (id' := "frozenset.__iter__") (by kernel_rfl) rfl (by decide +kernel) (by kernel_rfl)
def zFt:typeLookup (.type "set") "__len__" = pure (some (.builtin "set.__len__")):=by rw[typeLookup_type,builtinLookup_eq_fast];kernel_rfl
section
variable{prog:HX}{w:HZ}{A:IE}{E:A2->A4->Prop}{s:A4}
theorem Ub{n:Nat}{Q:Nat->A4->Prop}(a:n≠0)(h:∀i d,i<n->Q i { s with drawn:=d }):wpAny (model prog w) A (choose .order n) Q E s:=λΓ p hΓ=>by
 unfold choose;rw[Sem.wp_choose];exact⟨a,h _ _ (Nat.mod_lt _ (Nat.pos_of_ne_zero a))⟩
theorem JU{α:Type}:∀{l:A0 α} {i:Nat} {x:α},l[i]?=some x->(x::l.eraseIdx i).Perm l
 | [],i,x,h=>by simp at h
 | y::l,0,x,h=>by
  have:y=x:=by simpa using h
  subst this;exact .refl _
 | y::l,i+1,x,h=>by
  have a:l[i]?=some x:=by simpa using h
  exact(List.Perm.swap y x _).trans ((JU a).cons y)
theorem Ix{α:Type}{l:A0 α}{i:Nat}{x:α}(h:l[i]?=some x):(l.eraseIdx i).length+1=l.length:=(JU h).length_eq
theorem Re{α:Type}:∀(n:Nat) (l:A0 α) (s:A4) (Q:A0 α->A4->Prop),l.length=n->(∀b d,b.Perm l->Q b { s with drawn:=d })->wpAny (model prog w) A (drawOrder n l) Q E s
 | 0,l,s,Q,a,h=>by
  unfold drawOrder;obtain rfl:=FO.mp a;exact AD (h [] s.drawn (.refl _))
 | n+1,[],s,Q,a,h=>by simp at a
 | n+1,x::f,s,Q,a,h=>by
  unfold drawOrder;refine AA (Ub (by simp) λi d g=>?_);have e:(x::f)[i]?=some ((x::f)[i]):=AF g;rw[e];dsimp only;have j:=JU e;refine AA (Re n _ _ _ (by have:=Ix e;lia) λb k c=>?_);exact AD (h _ k ((c.cons _).trans j))
theorem Tj{α:Type}(nx:Nat->Nat):∀(f k:Nat) (left:A0 α) (out:HW α),left.length=f->(pickOrder.go nx f k left out).toList.Perm (out.toList++left)
 | 0,k,left,out,h=>by
  obtain rfl:=FO.mp h;unfold pickOrder.go;simp
 | f+1,k,left,out,h=>by
  have a:nx k % left.length<left.length:=Nat.mod_lt _ (by lia);have e:left[nx k % left.length]?=some left[nx k % left.length]:=AF a;unfold pickOrder.go;rw[e];dsimp only;have b:=JU e;refine(Tj nx f (k+1) _ _ (by have:=Ix e;lia)).trans ?_;rw[DE,BG];exact b.append_left _
theorem Cg{α:Type}(nx:Nat->Nat)(xs:HW α):(pickOrder nx xs).toList.Perm xs.toList:=by
 unfold pickOrder;have:=Tj nx xs.size 0 xs.toList #[] (AS ..);simpa using this
structure RK(w:HZ)(h:IC)(a:A3)(o:Obj)(es:HW (Int×A2))(ep:Nat)(t:IK):Prop where
 ho:h.get? a=some o
 ex:o.ExactSet
 hd:o.data = .set es ep t
 ft:t.fits es.size=true
 led:t.led=!(w.params.followText "set-order")
 pln:t.plain=true->es.size=0
 few:es.size<4096
def RP(first:A2)(i n ep:Nat)(a:A3):Obj:={ cls:=.type "set_iterator",data:=.fields #[first,rawInt i,.ref a,rawInt n,rawInt ep] }
theorem T4{Q:Bool->A4->Prop}(h:Q (w.params.followText "set-order") s):wpAny (model prog w) A setsByText Q E s:=by
 unfold setsByText;exact AA (GV (AD h))
variable{a it:A3}{o:Obj}{es:HW (Int×A2)}{ep:Nat}{t:IK}
theorem Bf{i g:Nat}{r:A5 (A2×Nat)}{Q:A5 A2->A4->Prop}(h:A.handled=none)(S:RK w s.heap a o es ep t)(n:it≠a)(hi:s.heap.get? it=some (RP (rawInt g) i es.size ep a))
  (c:∀(j:A5 (A2×Nat)->A4->Prop) (q:IE) (u:A2->A4->Prop),j r s->wpAny (model prog w) q (setNext a g i ep) j u s)
  (d:∀x nx h',r=some (x,nx)->h'.get? it=some (RP (rawInt nx) (i+1) es.size ep a)->Heap.SameBut it s.heap h'->Q (some x) { s with heap:=h' })
  (f:r=none->∀h',Heap.ExtBut it s.heap h'->Q none { s with heap:=h' }):wpAny (model prog w) A (pyNext (.ref it)) Q E s:=by
 have k:s.TypeIs (.ref it) "set_iterator":=⟨_,hi,rfl⟩;unfold pyNext;refine AA (GH (CG (name:=Str.ofString "__next__") k JM (CF JM k r8 ?_ (Al _))));unfold Builtin.«set_iterator.__next__»;refine AA (EG (a:=(Value.ref it,[])) rfl ?_);dsimp only;refine AA (wpAny_fieldsOf hi rfl ?_);dsimp only[rawInt];refine AA (wpAny_setEntries_of S.ho S.hd S.ft ?_);rw[AI (by simp)];simp only[CH];refine AA (c _ _ _ ?_);cases r with
 | some p =>
  obtain⟨x,nx⟩:=p;dsimp only;refine AA (ED hi rfl (by simp) ?_);have l:=BZ (Obj.mapFields (·.setIfInBounds 0 (rawInt (nx:Nat)))) hi rfl;refine AA (ED l rfl (by simp) ?_);have v:=BZ (Obj.mapFields (·.setIfInBounds 1 (rawInt ((i:Int)+1)))) l rfl;refine AD ⟨x,rfl,AD (d x nx _ rfl ?_ ((DN ..).trans (DN ..)))⟩;exact v
 | none =>
  dsimp only;refine AA (ED hi rfl (by simp) ?_);refine AA ?_;simp only[newExc,newTuple];refine AA (BV ?_ (by size_fits));refine AA (m:=firstArgMember _ _) (EG (a:=Value.none) (by first | rfl | (simp only[firstArgMember];rfl)) ?_);refine BV ?_ (by size_fits);simp only[raiseNew];refine AA (wpAny_handled ?_)
  first | rw[show A.in1.handled=none from h] | rw[h]
  refine AA (AD (wpAny_throw ?_));refine AA (FP (T := "StopIteration") (b:=true) ⟨_,AW _ rfl,rfl⟩ isSubtype_stop ?_);exact AD (f rfl _ ((HR (HR (λb o y e=>(BH _ _ (Ne.symm y)).trans e) _)) _))
end
def TF(ps:A0 Nat):Obj:={ cls:=.type "tuple",data:=.seq (ps.map λ(i:Nat)=>rawInt i).toArray }
section
variable{prog:HX}{w:HZ}{A:IE}{E:A2->A4->Prop}{s:A4}{a it T:A3}{o:Obj}{es:HW (Int×A2)}{ep:Nat}{t:IK}
theorem Ln{i:Nat}{ps:A0 Nat}{Q:A5 A2->A4->Prop}(l:A.handled=none)(S:RK w s.heap a o es ep t)(hi:s.heap.get? it=some (RP (.ref T) i es.size ep a))(n:s.heap.get? T=some (TF ps))
  (f:∀p x h',ps[i]?=some p->es[p]?=some x->h'.get? it=some (RP (.ref T) (i+1) es.size ep a)->Heap.SameBut it s.heap h'->Q (some x.2) { s with heap:=h' }) (g:∀p∈ps,p<es.size)
  (h:ps.length<=i->∀h',Heap.ExtBut it s.heap h'->Q none { s with heap:=h' }):wpAny (model prog w) A (pyNext (.ref it)) Q E s:=by
 have d:s.TypeIs (.ref it) "set_iterator":=⟨_,hi,rfl⟩;unfold pyNext;refine AA (GH (CG (name:=Str.ofString "__next__") d JM (CF JM d r8 ?_ (Al _))));unfold Builtin.«set_iterator.__next__»;refine AA (EG (a:=(Value.ref it,[])) rfl ?_);dsimp only;refine AA (wpAny_fieldsOf hi rfl ?_);dsimp only[rawInt];refine AA (wpAny_setEntries_of S.ho S.hd S.ft ?_);rw[AI (by simp)];simp only[CH];refine AA (DZ n rfl ?_);dsimp only;cases e:ps[i]? with
 | some p =>
  have q:(ps.map λ(i:Nat)=>Value.int (i:Int) 0).toArray[i]?=some (.int (p:Int) 0):=by
   rw[DY,AH,e];rfl
  have c:(ps.map λ(i:Nat)=>rawInt i).toArray[i]?=some (.int (p:Int) 0):=q;rw[c];have r:p<es.size:=g p (BB e);obtain⟨x,j⟩:∃x,es[p]?=some x:=⟨es[p],CV.mpr ⟨r,rfl⟩⟩;dsimp only;simp only[CH];unfold setNextDrawn;refine AA (AA (CD S.ho S.hd S.ft ?_));dsimp only;rw[AI (by simp),j];dsimp only;refine AD ?_;refine AA (ED hi rfl (by simp) ?_);have u:=BZ (Obj.mapFields (·.setIfInBounds 1 (rawInt ((i:Int)+1)))) hi rfl;exact AD ⟨x.2,rfl,AD (f p x _ e j u (DN ..))⟩
 | none =>
  have c:(ps.map λ(i:Nat)=>rawInt i).toArray[i]?=none:=by
   rw[DY,AH,e];rfl
  rw[c];dsimp only;refine AA (ED hi rfl (by simp) ?_);have v:=BZ (Obj.mapFields (·.setIfInBounds 0 (rawInt 0))) hi rfl;refine AA (ED v rfl (by simp) ?_);refine AA ?_;simp only[newExc,newTuple];refine AA (BV ?_ (by size_fits));refine AA (m:=firstArgMember _ _) (EG (a:=Value.none) (by first | rfl | (simp only[firstArgMember];rfl)) ?_);refine BV ?_ (by size_fits);simp only[raiseNew];refine AA (wpAny_handled ?_);rw[show A.in1.handled=none from l];refine AA (AD (wpAny_throw ?_));refine AA (FP (T := "StopIteration") (b:=true) ⟨_,AW _ rfl,rfl⟩ isSubtype_stop ?_);refine AD (h (GY.mp e) _ (HR (HR (λb z k y=>?_) _) _));exact(BH _ _ (Ne.symm k)).trans ((BH _ _ (Ne.symm k)).trans y)
def zHe(w:HZ)(a T:A3)(es:HW (Int×A2))(ep:Nat)(t:IK)(b:A0 A2)(i:Nat)(h:IC)(first:A2):Prop :=
 (w.params.followText "set-order" = true/\first=rawInt (0:Nat)/\b =(pickOrder (w.params.setOrder a ep) es).toList.map (·.2)) \/
 (w.params.followText "set-order" = false/\∃ps:A0 Nat,first = .ref T/\h.get? T=some (TF ps)/\ps.Perm (List.range es.size)/\b=ps.filterMap λp=>es[p]?.map (·.2)) \/
 (w.params.followText "set-order" = false/\es.size<=1/\b=es.toList.map (·.2)/\∃c:Nat,first=rawInt c/\(i=0->c=0)/\(i=1->∃j,t.place = #[j]/\c=j+1))
def SSt(w:HZ)(a it T:A3)(o:Obj)(es:HW (Int×A2))(ep:Nat)(t:IK)(b:A0 A2)(i:Nat)(h:IC):Prop :=
 RK w h a o es ep t/\∃first,h.get? it=some (RP first i es.size ep a)/\zHe w a T es ep t b i h first
theorem RK.at{h h':IC}(S:RK w h a o es ep t)(e:h'.get? a=some o):RK w h' a o es ep t:=⟨e,S.ex,S.hd,S.ft,S.led,S.pln,S.few⟩
theorem zCs(j:Nat):SetTable.below #[j] 0=0:=by simp[SetTable.below,SetTable.below.go]
theorem zDq(j:Nat):SetTable.below #[j] (j+1)=1:=by simp[SetTable.below,SetTable.below.go]
theorem Uy(S:RK w s.heap a o es ep t):t.place.size=es.size:=by
 have:=S.ft;unfold SetTable.fits at this;rw[CS]at this;simpa using this.1
theorem Pr(L:A.handled=none){u:A0 A2}(m:it≠a)(Z:it≠T):Walks prog w A it [it,a,T] [it] es.size (λi v=>u[i]?=some v) (SSt w a it T o es ep t u) where
 sub:=λb M=>by simp at M;simp[M]
 frame:=λi h c ⟨S,first,B,N⟩ k=>by
  refine⟨S.at (k a (by simp) _ S.ho),first,k it (by simp) _ B,?_⟩;rcases N with z | ⟨g,ps,V,n,F,G⟩ | z
  .exact .inl z
  .exact .inr (.inl ⟨g,ps,V,k T (by simp) _ n,F,G⟩)
  .exact .inr (.inr z)
 item:=λi s Q E hlt ⟨S,first,B,N⟩ I=>by
  have d:∀c,Heap.SameBut it s.heap c->∀b H,b∉[it]->s.heap.get? b=some H->c.get? b=some H:=λc f b H M e=>(f.2 b (by simpa using M)).trans e;rcases N with⟨g,rfl,n⟩ | ⟨g,ps,rfl,n,F,G⟩ | ⟨g,V,n,sl,rfl,G,z6⟩
  .have J:=Cg (w.params.setOrder a ep) es;have C:(pickOrder (w.params.setOrder a ep) es).size=es.size:=by rw[<-AS,J.length_eq,AS]
   obtain⟨x,P⟩:∃x,(pickOrder (w.params.setOrder a ep) es)[i]?=some x:=⟨_,CV.mpr ⟨by rw[C];exact hlt,rfl⟩⟩;refine Bf (r:=some (x.2,0)) L S m B (λR A' E' q=>?_) (λy nx c D O f=>?_) (λe=>nomatch e)
   .unfold setNext setWalk;refine AA (CD S.ho S.hd S.ft ?_);dsimp only;refine AA (T4 ?_);rw[g,AN rfl,AI (by simp)];refine AA (AA (CD S.ho S.hd S.ft ?_));dsimp only;refine AA (T4 ?_);rw[g,AN rfl];refine AA (GV (AD (AD ?_)));show R (((pickOrder (w.params.setOrder a ep) es)[i]?).map λe=>(e.2,0)) s;rw[P];exact q
   .cases D;have:=I x.2 c s.toks (by rw[n,AH,BJ,P];rfl) ⟨S.at ((f.2 a (Ne.symm m)).trans S.ho),_,O,.inl ⟨g,rfl,n⟩⟩ (d c f);exact this
  .refine Ln L S B n (λp x c D O e3 f=>?_) (λp hp=>DC.mp (F.mem_iff.mp hp)) (λhle=>?_)
   .have U:∀q∈ps,(es[q]?.map (·.2)).isSome=true:=λq hq=>by
     have:q<es.size:=DC.mp (F.mem_iff.mp hq);rw[CV.mpr ⟨this,rfl⟩];rfl
    refine I x.2 c s.toks ?_ ⟨S.at ((f.2 a (Ne.symm m)).trans S.ho),_,e3,.inr (.inl ⟨g,ps,rfl,(f.2 T (Ne.symm Z)).trans n,F,G⟩)⟩ (d c f);have gen:∀(l:A0 Nat) (i p:Nat),(∀q∈l,(es[q]?.map (·.2)).isSome=true)->l[i]?=some p->(l.filterMap λp=>es[p]?.map (·.2))[i]?=es[p]?.map (·.2):=by
     intro l
     induction l with
     | nil=>intro i p _ e;simp at e
     | cons q r ih =>
      intro i p W e;obtain⟨v,hv⟩:=FN.mp (W q (AX ..));rw[EW,hv];dsimp only;cases i with
      | zero =>
       have:q=p:=by simpa using e
       subst this;simpa using hv.symm
      | succ i=>simpa using ih i p (λq hq=>W q (AL _ hq)) (by simpa using e)
    rw[G,gen ps i p U D,O];rfl
   .have:=F.length_eq;rw[DX]at this;lia
  .have X:i=0:=by lia
   have h1:es.size=1:=by lia
   obtain⟨j,Y⟩:∃j,t.place = #[j]:=Array.size_eq_one_iff.mp ((Uy S).trans h1);obtain⟨x,P⟩:∃x,es = #[x]:=Array.size_eq_one_iff.mp h1;have hs0:=G X;subst hs0;have hx0:es[0]?=some x:=by rw[P];rfl
   refine Bf (r:=some (x.2,j+1)) L S m B (λR A' E' q=>?_) (λy nx c D O f=>?_) (λe=>nomatch e)
   .unfold setNext;refine AA (CD S.ho S.hd S.ft ?_);dsimp only;refine AA (T4 ?_);rw[g,AI (by decide)];show wpAny _ _ (if(!t.plain&&decide (es.size>1))=true then _ else _) _ _ _;rw[AI (by rw[h1];simp)];show wpAny _ _ (do (if(!t.led&&!es.isEmpty)=true then unsupported "set:maker-not-led" else pure ());_) _ _ _;rw[S.led,g,AI (by simp)];refine AA (AD ?_);rw[Y,zCs,hx0];exact AD q
   .cases D;refine I x.2 c s.toks (by rw[n,X,P];rfl) ⟨S.at ((f.2 a (Ne.symm m)).trans S.ho),_,O,.inr (.inr ⟨g,V,n,j+1,rfl,λe=>by lia,λ_=>⟨j,Y,rfl⟩⟩)⟩ (d c f)
 done:=λs Q E ⟨S,first,B,N⟩ I=>by
  have d:∀c,Heap.ExtBut it s.heap c->∀b H,b∉[it]->s.heap.get? b=some H->c.get? b=some H:=λc f b H M e=>f b H (by simpa using M) e;rcases N with⟨g,rfl,n⟩ | ⟨g,ps,rfl,n,F,G⟩ | ⟨g,V,n,sl,rfl,G,z6⟩
  .have J:=Cg (w.params.setOrder a ep) es;have C:(pickOrder (w.params.setOrder a ep) es).size=es.size:=by rw[<-AS,J.length_eq,AS]
   refine Bf (r:=none) L S m B (λR A' E' q=>?_) (λy nx c D=>nomatch D) (λ_ c f=>I c s.toks (d c f));unfold setNext setWalk;refine AA (CD S.ho S.hd S.ft ?_);dsimp only;refine AA (T4 ?_);rw[g,AN rfl,AI (by simp)];refine AA (AA (CD S.ho S.hd S.ft ?_));dsimp only;refine AA (T4 ?_);rw[g,AN rfl];refine AA (GV (AD (AD ?_)));show R (((pickOrder (w.params.setOrder a ep) es)[es.size]?).map λe=>(e.2,0)) s;rw[EE (by rw[C];exact VD _)];exact q
  .have W:=F.length_eq;rw[DX]at W;refine Ln L S B n (λp x c D O e3 f=>?_) (λp hp=>DC.mp (F.mem_iff.mp hp)) (λ_ c f=>I c s.toks (d c f));have:=(AK.mp D).1;lia
  .refine Bf (r:=none) L S m B (λR A' E' q=>?_) (λy nx c D=>nomatch D) (λ_ c f=>I c s.toks (d c f));unfold setNext;refine AA (CD S.ho S.hd S.ft ?_);dsimp only;refine AA (T4 ?_);rw[g,AI (by decide)];show wpAny _ _ (if(!t.plain&&decide (es.size>1))=true then _ else _) _ _ _;rw[AI (by simp;intro _;lia)];show wpAny _ _ (do (if(!t.led&&!es.isEmpty)=true then unsupported "set:maker-not-led" else pure ());_) _ _ _;rw[S.led,g,AI (by simp)];refine AA (AD ?_);have K:es[SetTable.below t.place sl]?=none:=by
    by_cases X:es.size=0
    .exact EE (by rw[X];exact CB _)
    .obtain⟨j,Y,rfl⟩:=z6 (by lia);rw[Y,zDq];exact EE (by lia)
   rw[K];exact AD q
 self:=λi s Q E ⟨S,first,B,N⟩ h=>by
  have hT:s.TypeIs (.ref it) "set_iterator":=⟨_,B,rfl⟩;refine wpAny_pyIter_slot hT Ao (CF Ao hT Fb ?_ (Gx _));show wpAny _ _ (ret (.ref it)) _ _ s;exact AD ⟨_,rfl, "set_iterator",_,hT,JM.lookup,h⟩
theorem Wj{Q:A2->A4->Prop}(S:RK w s.heap a o es ep t)
  (h:∀(it T:A3) (c:A0 A2) (h':IC) (d:Drawn),it≠a->it≠T->(T=a\/s.heap.objs.size<=T)->s.heap.objs.size<=it->(∀b g,s.heap.get? b=some g->h'.get? b=some g)->c.Perm (es.toList.map (·.2))->SSt w a it T o es ep t c 0 h'->(∀b∈[it,a,T],b<h'.objs.size) ->
   (∀H:IE,H.handled=none->Walks prog w H it [it,a,T] [it] es.size (λi v=>c[i]?=some v) (SSt w a it T o es ep t c))->Q (.ref it) { s with heap:=h',drawn:=d }):wpAny (model prog w) A (pyIter (.ref a)) Q E s:=by
 have L:s.TypeIs (.ref a) "set":=⟨_,S.ho,S.ex.1⟩;have D:=AG S.ho;refine wpAny_pyIter_slot L F.slot_set_iter (CF F.slot_set_iter L Hv ?_ (F.args_set_iter_1 _));unfold Builtin.«frozenset.__iter__» Builtin.Frozenset.slot0 Builtin.Frozenset.sizeOf;refine AA (AA (EG (a:=(Value.ref a,[])) rfl ?_));dsimp only;refine EG (a:=a) rfl ?_;refine AA (AA (wpAny_setEntries_of S.ho S.hd S.ft (AD ?_)));have m:∀(first:A2) (T:A3) (c:A0 A2) (f:IC) (d:Drawn),(∀b g,s.heap.get? b=some g->f.get? b=some g)->s.heap.objs.size<=f.objs.size->c.Perm (es.toList.map (·.2))->T<f.objs.size->(T=a\/s.heap.objs.size<=T) ->
   (∀q:IC,(∀b g,f.get? b=some g->q.get? b=some g)->zHe w a T es ep t c 0 q first) ->
   wpAny (model prog w) A.in1 (do let e <-setEpoch a;let x <-newFields "set_iterator" [first,rawInt 0,.ref a,rawInt (es.size:Nat),rawInt (e:Nat)];ret x) (λr M=>∃v,r=Fin.done (Flow.ret v)/\∃N r,M.TypeIs v N/\typeLookup (Value.type N) (Str.ofString "__next__")=pure (some r)/\Q v M) E { s with heap:=f,drawn:=d }:=by
  intro first T c f d k n l y I O
  refine AA (wpAny_setEpoch_of (s:={ s with heap:=f,drawn:=d }) (k a o S.ho) S.hd S.ft ?_);refine AA (BV ?_);have G:(f.push (RP first 0 es.size ep a)).get? f.objs.size=some (RP first 0 es.size ep a):=AW _ rfl;have z:∀b g,f.get? b=some g->(f.push (RP first 0 es.size ep a)).get? b=some g:=λb g e=>AC _ e;have B:f.objs.size≠a:=λe=>absurd (BI D n) (by rw[<-e];exact DA _);have C:f.objs.size≠T:=λe=>absurd y (by rw[<-e];exact DA _);refine AD ⟨.ref f.objs.size,rfl, "set_iterator",_,⟨_,G,rfl⟩,JM.lookup,?_⟩;refine h f.objs.size T c (f.push (RP first 0 es.size ep a)) d B C I n (λb g e=>z b g (k b g e)) l ⟨S.at (z a o (k a o S.ho)),first,G,O _ z⟩ (λb u=>?_) λH P=>Pr P B C;rw[CU];simp only[AU,A_,or_false]at u;rcases u with rfl | rfl | rfl
  .exact FA _
  .exact EU (BI D n)
  .exact EU y
 unfold setDrawn;refine AA (AA (CD S.ho S.hd S.ft ?_));dsimp only;refine AA (T4 (AD ?_));cases u:w.params.followText "set-order" with
 | true =>
  show wpAny _ _ (if(!true &&(!t.plain&&decide (es.size>1)))=true then _ else _) _ _ _;rw[EN,DP,AI (by decide)];refine AA (AD ?_);exact m _ a _ s.heap s.drawn (λ_ _ e=>e) (VD _) ((Cg _ es).map _) D (.inl rfl) λq _=>.inl ⟨u,rfl,rfl⟩
 | false =>
  show wpAny _ _ (if(!false &&(!t.plain&&decide (es.size>1)))=true then _ else _) _ _ _;by_cases j:(!t.plain&&decide (es.size>1))=true
  .rw[HK,HV,AN j];refine AA (Re es.size (List.range es.size) s _ (DX ..) λps d l=>AA ?_);unfold newTuple;refine BV ?_ ?_
   .have G:(s.heap.push (TF ps)).get? s.heap.objs.size=some (TF ps):=AW _ rfl;refine m _ s.heap.objs.size (ps.filterMap λp=>es[p]?.map (·.2)) (s.heap.push (TF ps)) d (λb g e=>AC _ e) (by rw[CU];exact DM _) ?_ (by rw[CU];exact FA _) (.inr (VD _)) λq z=>.inr (.inl ⟨u,ps,rfl,z _ _ G,l,rfl⟩);refine(l.filterMap _).trans (FE ?_);have:=filterMap_getElem?_range es;rw[<-this,List.map_filterMap]
   .have f:=l.length_eq;have q:=S.few;rw[DX]at f;show(List.map _ ps).toArray.size<=sizeLine;rw[AR,AB,sizeLine_eq];lia
  .rw[HK,HV,AI j];refine AA (AD ?_);have J:es.size<=1:=by
    by_cases l:t.plain=true
    .have:=S.pln l;lia
    .have K:t.plain=false:=by simpa using l
     rw[K]at j;simp at j;lia
   exact m _ a _ s.heap s.drawn (λ_ _ e=>e) (VD _) (.refl _) D (.inl rfl) λq _=>.inr (.inr ⟨u,J,rfl,0,rfl,λ_=>rfl,λe=>absurd e (by decide)⟩)
end
section
variable{prog:HX}{w:HZ}{A:IE}{E:A2->A4->Prop}{s:A4}{a:A3}{o:Obj}{es:HW (Int×A2)}{ep:Nat}{t:IK}
theorem Uw{a:A0 A2}{b:HW A2}(h:ItemsOf (λi v=>a[i]?=some v) b a.length):b.toList=a:=by
 refine FI λi=>?_;rw[BJ];by_cases c:i<b.size
 .have e:b[i]?=some b[i]:=CV.mpr ⟨c,rfl⟩;rw[e,h.2 i _ e]
 .rw[EE (by lia),GJ (by have:=h.1;lia)]
theorem P7{Q:A0 A2->A4->Prop}(O:A.handled=none)(S:RK w s.heap a o es ep t)
  (U:∀f q,(∀b c,s.heap.get? b=some c->f.heap.get? b=some c)->f.gens=s.gens->f.os=s.os->s.heap.objs.size<f.heap.objs.size->q.Perm (es.toList.map (·.2))->Q q f):wpAny (model prog w) A (collect (.ref a)) Q E s:=by
 have V:=AG S.ho;unfold collect;refine AA (wpAny_runValue (DI F.entry_proto_collect ?_));rw[Around.under_plainId F.plain_proto_collect _];show wpAny _ A.in1 (newList [] >>= λl=>again (.builtin "list.__iadd__" ⟨[l,.ref a],[]⟩)) _ _ s;refine AA (BV ?_);refine AD ⟨plainId_quiet F.plain_list_iadd _,DI F.entry_list_iadd ?_⟩;rw[Around.under_plainId F.plain_list_iadd _];show wpAny _ A.in1 (Builtin.List.listExtendWith (.ref s.heap.objs.size) (.ref a) (.ref s.heap.objs.size)) _ _ _;unfold Builtin.List.listExtendWith;have h:s.heap.objs.size≠a:=λe=>absurd V (by rw[<-e];exact DA _);generalize J:s.heap.push { cls:=.type "list",data:=.seq ([]:A0 A2).toArray }=H;have G:∀b c,s.heap.get? b=some c->H.get? b=some c:=λb c e=>by rw[<-J];exact AC _ e
 have i:H.objs.size=s.heap.objs.size+1:=by rw[<-J,CU]
 have X:H.get? s.heap.objs.size=some { cls:=.type "list",data:=.seq ([]:A0 A2).toArray }:=by rw[<-J];exact AW _ rfl
 have Y:Shared.TypeIs { s with heap:=H } (.ref a) "set":=⟨o,G a o S.ho,S.ex.1⟩;refine AA (EY Y ?_);have Z:Builtin.List.listSameRef (.ref s.heap.objs.size) (.ref a)=false:=by simp[Builtin.List.listSameRef,h]
 have h2:(Value.type "set" == Value.type "list")=false:=by decide
 have h3:(Value.type "set" == Value.type "tuple")=false:=by decide
 simp only[Z,h2,h3,Bool.or_false,BD,CO];refine AA (Wj (s:={ s with heap:=H }) (S.at (G a o S.ho)) λI T j r d hia hiT K u k P st hlt W=>?_);have m:Shared.TypeIs { s with heap:=r,drawn:=d } (.ref a) "set":=⟨o,k a o (G a o S.ho),S.ex.1⟩;refine AA (BP ?_);unfold Builtin.List.listLengthHint;refine AA (GE m zFt ?_);wp_delta;refine AA (FP m (b:=true) (by rw[isSubtype_type];kernel_rfl) ?_);show wpAny _ A.in1 (typeOf (Value.ref a) >>= _) _ _ _;refine AA (EY m ?_);refine AD ?_;rw[AN (by decide)];refine AA (DG ?_);have v:r.get? s.heap.objs.size=some { cls:=.type "list",data:=.seq ([]:A0 A2).toArray }:=k _ _ X;refine AA ?_;show wpAny _ A.in1 (updateSeq s.heap.objs.size (·.push .none) >>= λ_=>updateSeq s.heap.objs.size (·.pop)) _ _ _;refine AA (wpAny_updateSeq v rfl ?_);have x:=BZ (Obj.mapSeq (·.push Value.none)) v rfl;refine wpAny_updateSeq x rfl ?_;have L:=BZ (Obj.mapSeq (·.pop)) x rfl;have y:∀b c,b≠s.heap.objs.size->r.get? b=some c->((r.update s.heap.objs.size (Obj.mapSeq (·.push Value.none))).update s.heap.objs.size (Obj.mapSeq (·.pop))).get? b=some c :=
  λb c p e=>(BH _ _ (Ne.symm p)).trans ((BH _ _ (Ne.symm p)).trans e)
 have B:s.heap.objs.size∉[I,a,T]:=by
  have e1:s.heap.objs.size≠I:=λe=>absurd u (by
   show ¬H.objs.size<=I;rw[i,<-e];exact Nat.not_succ_le_self _)
  have e2:s.heap.objs.size≠T:=λe=>by
   rcases K with z | z
   .exact h (e.trans z)
   .exact absurd z (by
     show ¬H.objs.size<=T;rw[i,<-e];exact Nat.not_succ_le_self _)
  simp only[AU,A_,or_false,not_or];exact⟨e1,h,e2⟩
 have M:es.size=j.length:=by
  have:=P.length_eq;rw[AB,AS]at this;exact this.symm
 have R:=S.few;refine AD ⟨plainId_quiet F.plain_extend_loop _,codeAny_extend_loopS (W A.in1 O).toS (by rw[sizeLine_eq];lia) _ B _ es.size 0 _ _ _ rfl (CB _)
  ((W A.in1 O).frame 0 r _ st λb p c e=>y b c (λz=>B (z▸p)) e) L (ItemsOf.nil _) λf C c' N D g=>?_⟩
 show wpAny _ A (load s.heap.objs.size >>= _) _ _ f;refine AA (wpAny_load D ?_);rw[M]at g;refine AD (U f C.toList (λb c e=>N.heap b c (λp=>?_) (y b c (λz=>?_) (k b c (G b c e)))) N.gens N.os (AG D) (by rw[Uw g];exact P))
 .have n:=AG e;rcases AU.mp p with z | z
  .exact absurd n (by rw[z];exact DA _)
  .rw[AE.mp z]at n;have:H.objs.size<=I:=u;rw[i]at this;exact absurd (BI n (Nat.le_of_succ_le this)) (DA _)
 .exact absurd (AG e) (by rw[z];exact DA _)
end
end ST
namespace ST
open PySem L2
def zDi(t:IK)(n:Nat):(t.orStandIn n).led=t.led:=by
 unfold SetTable.orStandIn;split<;>rfl
def Yv(t:IK)(a:HW (Int×A2))(h:Int)(x:A2):(layNew t a h x).2.1.led=t.led:=by
 unfold layNew;split
 .rename_i b c e;show((t.put b).1.orStandIn _).led=_;rw[zDi];rfl
 .rfl
def Nl{t t':IK}{b:HW Int}{n:Nat}{a:HW Nat}(h:t.relaid b n=some (t',a)):t'.led=t.led/\t'.plain=t.plain:=by
 unfold SetTable.relaid SetTable.laid at h;cases e:SetTable.layClean (SetTable.sizeAbove n-1) b with
 | none=>rw[e]at h;cases h
 | some c =>
  rw[e]at h;cases h;exact⟨rfl,rfl⟩
def Qj(t:IK)(a:HW (Int×A2))(n:Nat)(b:t.plain=false):(relayAll t a n).2.1.led=t.led/\(relayAll t a n).2.1.plain=false:=by
 unfold relayAll;split
 .rename_i g c e;obtain⟨d,f⟩:=Nl e;dsimp only;split
  .exact⟨d,f.trans b⟩
  .exact⟨rfl,rfl⟩
 .exact⟨rfl,rfl⟩
def zIk:A2->Str
 | .str x _=>x
 | _=>Str.empty
section
variable{prog:HX}{w:HZ}{A:IE}{E:A2->A4->Prop}{s:A4}{a:A3}
structure MY(w:HZ)(es:HW (Int×A2))(ss:A0 Str):Prop where
 el:∀e∈es.toList,∃x tk,e =(hashStr w x,Value.str x tk)
 pm:(es.toList.map λe=>zIk e.2).Perm ss
 nd:ss.Nodup
def WS(w:HZ)(h:IC)(a:A3)(ss:A0 Str):Prop:=∃o b c t,RK w h a o b c t/\MY w b ss
theorem MY.elems{a:HW (Int×A2)}{ss:A0 Str}(h:MY w a ss):ElemsOf (C8 prog w) a.toList:=λe b=>by
 obtain⟨x,c,rfl⟩:=h.el e b;exact⟨⟨.inr x,Y5 x c,rfl⟩,rfl⟩
theorem MY.mem{d:HW (Int×A2)}{ss:A0 Str}(h:MY w d ss)(x:Str):x∈ss↔∃e∈d.toList,(C8 prog w).is (.inr x) e.2=true:=by
 rw[<-h.pm.mem_iff];constructor
 .intro g;obtain⟨e,a,rfl⟩:=BK.mp g;obtain⟨y,b,rfl⟩:=h.el e a;exact⟨_,a,Y5 y b⟩
 .rintro⟨e,a,j⟩;obtain⟨y,b,rfl⟩:=h.el e a;have:y=x:=by
   rcases G8 (show Df (.inr x) (.str y b)=true from j)with⟨i,t,f,c⟩ | ⟨z,t,f,c⟩
   .cases c
   .cases f;cases c;rfl
  subst this;exact BK.mpr ⟨_,a,rfl⟩
theorem MY.int{a:HW (Int×A2)}{ss:A0 Str}(h:MY w a ss)(i:Int):¬∃e∈a.toList,(C8 prog w).is (.inl i) e.2=true:=by
 rintro⟨e,d,f⟩;obtain⟨y,g,rfl⟩:=h.el e d;rcases G8 (show Df (.inl i) (.str y g)=true from f)with⟨i,t,b,c⟩ | ⟨z,t,b,c⟩
 .cases c
 .cases b
theorem MY.len{a:HW (Int×A2)}{ss:A0 Str}(h:MY w a ss):a.size=ss.length:=by
 have:=h.pm.length_eq;rw[AB,AS]at this;exact this
def inS(ss:A0 Str):IS->Bool
 | .inl _=>false
 | .inr x=>decide (x∈ss)
theorem WS.setOf{h:IC}{ss:A0 Str}(S:WS w h a ss):h.SetOf (C8 prog w) a (inS ss) ss.length:=by
 obtain⟨o,b,c,t,S,T⟩:=S;refine⟨o,b,c,t,S.ho,S.ex,S.hd,T.elems,λk=>?_,S.few,S.ft,T.len⟩;cases k with
 | inl i=>exact⟨λz=>Bool.noConfusion (show false=true from z),λz=>absurd z (T.int i)⟩
 | inr x =>
  show decide (x∈ss)=true↔_;rw[decide_eq_true_eq];exact T.mem x
theorem QP{ss:A0 Str}{x:Str}{m:Tok}{Q:Bool->A4->Prop}(S:WS w s.heap a ss)(hl:ss.length+1<4096)
  (h:∀h' b,Heap.SameBut a s.heap h'->WS w h' a (if x∈ss then ss else ss ++ [x])->Q b { s with heap:=h' }) :
  wpAny (model prog w) A (setAddHashed a (.str x m) (hashStr w x)) Q E s:=by
 obtain⟨o,n,ep,t,S,T⟩:=id S;have C:(C8 prog w).is (.inr x) (.str x m)=true:=Y5 x m;have hsz:=T.len;unfold setAddHashed setAddHashedIn;refine BP (AA (CD S.ho S.hd S.ft ?_));dsimp only;rw[byScan_of (knd:=C8 prog w) rfl S.few T.elems,AN rfl];unfold setAddByScan;refine AA (AA (DG ?_));refine AA (wpAny_setScan_of C S.ho S.hd S.ft T.elems ?_);cases W:List.findIdx? (λe=>(C8 prog w).is (.inr x) e.2) n.toList with
 | some j =>
  dsimp only;obtain⟨hj,M,_⟩:=List.findIdx?_eq_some_iff_getElem.mp W;have p:x∈ss:=(T.mem (prog:=prog) x).mpr ⟨n.toList[j],DD hj,M⟩;refine AD (AD ?_);have:=h s.heap false (Heap.SameBut.refl a s.heap) (by rw[AN p];exact⟨o,n,ep,t,S,T⟩);exact this
 | none =>
  dsimp only;have p:¬x∈ss:=λp=>by
   obtain⟨e,N,K⟩:=(T.mem (prog:=prog) x).mp p;have:=List.findIdx?_eq_none_iff.mp W e N;rw[K]at this;exact Bool.noConfusion this
  have D:∀(b:Bool) {O:A4} {P:Unit->A4->Prop},P () O->wpAny (model prog w) A (match b with | true=>rule "set.scan.the-table-gave-way" | false=>pure ()) P E O :=
   λb O P X=>by cases b<;>first | exact AD X | exact DG X
  have d:=layNew_perm t n (hashStr w x) (.str x m);have g:=layNew_fits t n (hashStr w x) (.str x m);have k:=Yv t n (hashStr w x) (.str x m);show wpAny _ _ (match layNew t n (hashStr w x) (.str x m)with | (n,t,f,F)=>_) _ _ _;generalize layNew t n (hashStr w x) (.str x m)=L at d g k⊢;obtain⟨c,t1,f,F⟩:=L;dsimp only at d g k⊢;rw[DE]at d;have q:∀u:HW (Int×A2),u.toList.Perm c.toList->MY w u (ss ++ [x]):=λu G=>by
   refine⟨λe N=>?_,?_,?_⟩
   .rcases AO.mp (d.mem_iff.mp (G.mem_iff.mp N))with z | z
    .exact T.el e z
    .exact⟨x,m,AE.mp z⟩
   .refine((G.trans d).map _).trans ?_;rw[AJ];exact T.pm.append (.refl _)
   .rw[CI];refine⟨T.nd,by simp,λy hy z hz=>?_⟩;rw[AE.mp hz];rintro rfl;exact p hy
  have l:c.size=ss.length+1:=by
   have:=(q c (.refl _)).len;rw[AV]at this;exact this
  refine AA (D _ ?_);have H:∀i:IK,i.led=t.led->i.plain=false->i.fits c.size=true->wpAny (model prog w) A (do
    storeSet a c i
    if(!f&&i.tooFull)=true then do
      (match(relayAll i c (SetTable.grown c.size)).2.2 with | true=>rule "set.scan.the-table-gave-way" | false=>pure ())
      storeSet a (relayAll i c (SetTable.grown c.size)).1 (relayAll i c (SetTable.grown c.size)).2.1
      pure (some true)
     else pure (some true)) (λr s'=>wpAny (model prog w) A (match r with | some v=>pure v | none=>setAddHashedIn a (.str x m) (hashStr w x) 99999) Q E s') E s:=by
   intro i Y Z f2;refine AA (HM S.ho S.hd ?_ (by rw[l,sizeLine_eq];lia));have B:=Fr S.ho S.hd c i;have I:=DN s.heap a (Obj.putSet c i);split
   .have K:=relayAll_perm i c (SetTable.grown c.size);have hf:=relayAll_fits i c (SetTable.grown c.size);obtain⟨R,U⟩:=Qj i c (SetTable.grown c.size) Z;have J:(relayAll i c (SetTable.grown c.size)).1.size=c.size:=by rw[<-AS,K.length_eq,AS]
    refine AA (D _ ?_);refine AA (HM B rfl ?_ (by rw[J,l,sizeLine_eq];lia));refine AD (AD (h _ true (I.trans (DN _ a _)) ?_));rw[AI p];exact⟨_,_,_,_,⟨Fr B rfl _ _,S.ex,rfl,hf,R.trans (Y.trans S.led),(λz=>by rw[U]at z;cases z),by rw[J,l];lia⟩,q _ K⟩
   .refine AD (AD (h _ true I ?_));rw[AI p];exact⟨_,c,_,i,⟨B,S.ex,rfl,f2,Y.trans S.led,(λz=>by rw[Z]at z;cases z),by rw[l];lia⟩,q _ (.refl _)⟩
  cases V:t1.plain with
  | true =>
   rw[AN rfl,hashByValue_scannable 8 (x:=Value.str x m) rfl];refine AA (AD ?_);exact H { t1 with plain:=false } k rfl (SetTable.fits_plain_off g)
  | false =>
   rw[AI (by decide)];refine AA (AD ?_);exact H t1 k V g
end
end ST
namespace L2
open PySem PySem.Spec PyProof.Rows
def Bq(w:HZ)(a:A3)(ss:A0 Str):HO:=.ext λh=>ST.WS w h a ss
section
variable{X:Cx}{pins:A0 (A3×Obj)}{σ:St}{H:Hp}{s:A4}{a:A3}{ss:A0 Str}
theorem Yj{P:HX}{w:HZ}{H:Hp}{h:IC}(z:ST.WS w h a ss):IU P w H h a (Bq w a ss) :=
 ⟨z,let⟨o,_,_,_,S,_⟩:=z;⟨o,S.ho⟩,λd e ⟨o,b,c,t,S,r⟩ k=>⟨o,b,c,t,S.at (k o S.ho),r⟩⟩
theorem Inv.setw(I:Inv X pins σ H s)(e:H a=some (Bq X.w a ss)):ST.WS X.w s.heap a ss:=by
 obtain⟨z,_⟩:=(show IU X.prog X.w H s.heap a (Bq X.w a ss)from I.hok a _ e);exact z
def Xp(l:A0 Str)(x:Str):A0 Str:=if x∈l then l else l ++ [x]
def zCq(w:HZ):V->A0 V->Hp->VK->Prop:=λx b H Q=>∃a l k,x = .ref a/\b = [.str k]/\H a=some (Bq w a l)/\l.length+1<4096/\Q .non (H_ H a (Bq w a (Xp l k)))
theorem WS.typeIs{ss:A0 Str}(z:ST.WS X.w s.heap a ss):s.TypeIs (.ref a) "set":=let⟨o,_,_,_,S,_⟩:=z;⟨o,S.ho,S.ex.1⟩
theorem zAb:PX X "set.add" (zCq X.w):=by
 intro pins s σ H x n v p Q I g i h;obtain⟨a,l,k,rfl,rfl,d,j,q⟩:=h;cases g;obtain⟨u,rfl,⟨r,rfl⟩⟩:=i.one;have z:=I.setw d;refine CF F.slot_set_add (WS.typeIs z) F.entry_set_add ?_ (F.args_set_add_2 _ _);unfold Builtin.«set.add» Builtin.Frozenset.oneOther;simp only[List.isEmpty_nil,bind_assoc];unfold Builtin.Frozenset.addrOf setAdd;refine AA (AD ?_)
 try dsimp only
 refine AA (AD ?_)
 try dsimp only
 refine AA ?_;refine BP ?_;refine AA (wpAny_pyHash_str ?_);refine ST.QP (s:={ s with toks:=s.toks+1 }) z j λt b c f=>?_;show wpAny _ _ (ret Value.none) _ _ _;refine AD ⟨_,rfl,.non,_,I.write (x:=a) (e:=a) (t':=s.toks+1) (by rw[d];exact VC) (.inl rfl) (λb q m e=>(c.2 b m).trans e) (let⟨o,_,_,_,S,_⟩:=f;⟨o,S.ho⟩) (Yj f),rfl,q⟩
def zHl(w:HZ)(neg:Bool):R2:=λx y H Q=>∃a l k,y = .ref a/\x = .str k/\H a=some (Bq w a l)/\Q (.bl (if neg then !decide (k∈l)else decide (k∈l))) H
theorem Fi:KM X (compareOp .NotIn) (zHl X.w true):=by
 intro pins s σ H x y v u Q I b c h;obtain⟨a,l,k,rfl,rfl,d,q⟩:=h;cases c;obtain⟨e,rfl⟩:=b;exact wpAny_notInSet_of (knd:=C8 X.prog X.w) (k:=.inr k) (Y5 k e) rfl (I.setw d).setOf ⟨.bl (!decide (k∈l)),H,I.tok _,rfl,q⟩
end
def Inv.drawn{X:Cx}{a:A0 (A3×Obj)}{σ:St}{H:Hp}{s:A4}(I:Inv X a σ H s)(d:Drawn):Inv X a σ H { s with drawn:=d } :=
 ⟨I.ok,I.os,I.bare,I.base,I.loc,I.cell,I.free,I.freeC,I.pin,I.hok,I.len⟩
section
variable{X:Cx}
theorem Ja(Y:X.calm=true):J8 X (.builtin "sorted") (λxs H Q=>∃(p:A3) (ss:A0 Str),xs = [.ref p]/\H p=some (Bq X.w p ss)/\∀(l:A3) (d:A0 Str),H l=none->d.Perm ss->d.Pairwise NR->Q (.ref l) (H_ H l (.lst (d.map V.str)))):=by
 intro O s σ H xs j Q I r h;obtain⟨p,ss,rfl,Z,q⟩:=h;obtain⟨u,rfl,ru⟩:=Y3 r;cases ru;obtain⟨o,es,ep,t,S,T⟩:=I.setw Z;refine TS.KS (ST.P7 (show X.A.in1.handled=none from I.ok.hd Y) S λC c k1 g1 P D f=>?_);have R:∀v∈c,∃x g,v=Value.str x g:=λv m=>by
  obtain⟨e,E,rfl⟩:=BK.mp (f.mem_iff.mp m);obtain⟨x,g,rfl⟩:=T.el e E;exact⟨x,g,rfl⟩
 have n:StrsAre c (c.map strOf):=by
  have:∀l:A0 A2,(∀v∈l,∃x g,v=Value.str x g)->StrsAre l (l.map strOf):=by
   intro l
   induction l with
   | nil=>exact λ_=>.nil
   | cons v r F =>
    intro h;obtain⟨x,g,rfl⟩:=h v (AX ..);exact .cons _ _ (F λu z=>h u (AL _ z))
  exact this c R
 have U:c.length=es.size:=by rw[f.length_eq,AB,AS]
 have W:=S.few;have G:(c.map strOf).Perm ss:=by
  refine(f.map strOf).trans ?_;rw[BQ];refine List.Perm.trans (FE ?_) T.pm;refine List.map_congr_left λe E=>?_;obtain⟨x,g,rfl⟩:=T.el e E;rfl
 refine⟨P,by rw[sizeLine_eq];lia,strKind,oneType',λs2 _=>TS.MP n,λout h' e ho k hg=>?_⟩;obtain⟨J,hs⟩:=ho;have K:∀v∈out.toList,∃x t,v = .str x t:=λv m=>R v (J.mem_iff.mp m);have m:IJ ((out.toList.map strOf).map V.str) out.toList:=by
  have:∀j:A0 A2,(∀v∈j,∃x t,v = .str x t)->IJ ((j.map strOf).map V.str) j:=by
   intro j
   induction j with
   | nil=>exact λ_=>.nil
   | cons v r F =>
    intro h;obtain⟨x,t,rfl⟩:=h v (AX ..);exact .cons ⟨t,rfl⟩ (F λu z=>h u (AL _ z))
  exact this _ K
 have i:(out.toList.map strOf).Perm ss:=(J.map strOf).trans G;have L:(out.toList.map strOf).Pairwise NR:=by
  rw[CT];refine(EJ.mp hs).imp fun{u v} ⟨z,M,q⟩=>?_;obtain⟨x,t,rfl⟩:=K u z;obtain⟨y,t',rfl⟩:=K v M;have q':decide (y.cps.toList<x.cps.toList)=false:=q;exact HF q'
 have k0:∀b o,s.heap.get? b=some o->h'.get? b=some o:=λb o eb=>k b o (k1 b o eb);have B:s.heap.objs.size<=C.heap.objs.size:=DR D;have hn:H C.heap.objs.size=none:=I.hok.fresh B;obtain⟨N,g',d',t',o'⟩:=C;have eo:o'=s.os:=P;have eg:g'=s.gens:=g1;subst eo;subst eg;refine⟨.ref N.objs.size,H_ H N.objs.size (.lst ((out.toList.map strOf).map V.str)),?_,rfl,q _ _ hn i L⟩;exact(I.laid (a:=N.objs.size) (o:=.lst ((out.toList.map strOf).map V.str)) (t':=t') k0 B ⟨by rw[AB,AB,J.length_eq,sizeLine_eq];lia,out.toList,e,m,by simpa using hg⟩).drawn d'
end
def Pg(P:HX)(w:HZ)(a:A3)(b:A0 (A0 IS×A3)):HO:=.ext λh=>ST.NC (C8 P w) h a b
def Kz(H:Hp)(a:A0 (A0 IS×A3)):Prop:=∀q∈a,H q.2=some (.tup (q.1.map kV))
section
variable{X:Cx}{pins:A0 (A3×Obj)}{σ:St}{H:Hp}{s:A4}{a:A3}{ks:A0 (A0 IS×A3)}
theorem Mv(P:HX)(w:HZ):ST.Flat (C8 P w):=λv ⟨x,h⟩=>(C8 P w).byValue x v h
theorem Uo(P:HX)(w:HZ):ST.RZ (C8 P w):=λv ⟨x,h⟩=>by
 rcases G8 (show Df x v=true from h)with⟨i,t,_,rfl⟩ | ⟨y,t,_,rfl⟩<;>rfl
theorem Yf{P:HX}{w:HZ}{H:Hp}{h:IC}(z:ST.NC (C8 P w) h a ks):IU P w H h a (Pg P w a ks) :=
 ⟨z,let⟨o,_,_,_,e,_⟩:=z;⟨o,e⟩,λd f ⟨o,b,c,t,e,r⟩ k=>⟨o,b,c,t,k o e,r⟩⟩
theorem Inv.sett(I:Inv X pins σ H s)(e:H a=some (Pg X.prog X.w a ks)):ST.NC (C8 X.prog X.w) s.heap a ks:=by
 obtain⟨z,_⟩:=(show IU X.prog X.w H s.heap a (Pg X.prog X.w a ks)from I.hok a _ e);exact z
theorem Ni:J8 X (.type "set") (λxs H Q=>xs = []/\∀p,H p=none->Q (.ref p) (H_ H p (Pg X.prog X.w p []))):=by
 intro pins s σ H xs c Q I r h;obtain⟨rfl,q⟩:=h;cases r;refine call_set_0 λa=>⟨.ref s.heap.objs.size,_,I.laid (t':=s.toks) (λb o e=>AC _ e) (VD _) (Yf ?_),rfl,q _ (I.hok.fresh (VD _))⟩;exact⟨_,#[],0,_,AW _ rfl,⟨rfl,rfl,rfl⟩,rfl,.refl _,⟨rfl,rfl,.inl rfl,by show 0*5<7*3;decide⟩⟩
def zHr(P:HX)(w:HZ):R2:=λx y H Q=>∃a p ks k,y = .ref a/\x = .ref p/\H a=some (Pg P w a ks)/\H p=some (.tup (k.map kV))/\Kz H ks/\(∀q∈ks,q.1≠k)/\Q (.bl false) H
theorem Ny(b:X.A.units+1<cLine):KM X (compareOp .In) (zHr X.prog X.w):=by
 intro pins s σ H x y v u Q I c d h;obtain⟨a,p,ks,k,rfl,rfl,e,f,g,i,q⟩:=h;cases d;cases c;exact ST.RT (neg:=false) b (Mv _ _) (I.sett e) (λz j=>Ah I.hok (g z j)) (Ah I.hok f) i ⟨.bl false,H,I.tok _,rfl,q⟩
def zDk(P:HX)(w:HZ):V->A0 V->Hp->VK->Prop:=λx b H Q=>∃a p ks k,x = .ref a/\b = [.ref p]/\H a=some (Pg P w a ks)/\H p=some (.tup (k.map kV))/\Kz H ks/\(∀q∈ks,q.1≠k)/\ks.length+1<=300/\Q .non (H_ H a (Pg P w a (ks ++ [(k,p)])))
theorem zAo(d:X.A.units+1<cLine):PX X "set.add" (zDk X.prog X.w):=by
 intro pins s σ H x B v C Q I f g h;obtain⟨a,p,ks,k,rfl,rfl,c,i,j,l,m,q⟩:=h;cases f;obtain⟨u,rfl,n⟩:=g.one;cases n;refine ST.RE d (Mv _ _) (Uo _ _) (I.sett c) (λz r=>Ah I.hok (j z r)) (Ah I.hok i) l m λD t z=>?_;exact⟨.non,_,I.write (x:=a) (e:=a) (by rw[c];exact VC) (.inl rfl) (λb q y e=>(t.2 b y).trans e) (let⟨o,_,_,_,e,_⟩:=z;⟨o,e⟩) (Yf z),rfl,q⟩
end
section
variable{X:Cx}
theorem Su:J8 X (.builtin "isinstance") (λxs H Q=>∃x n t b,xs = [x,.ty n]/\MJ X.K H x t/\PySem.W.kitOne X.K t (.type n)=some b/\Q (.bl b) H):=by
 intro a s σ H xs g Q I r h;obtain⟨x,n,t,b,rfl,c,d,q⟩:=h;obtain⟨u,v,rfl,e,f⟩:=r.two;cases f;exact Rn I e c d λi=>⟨.bl b,H,I.tok _,rfl,q⟩
end
mutual
def Rp(K:VA)(H:Hp):PyData->V->Prop
 | .none,v=>v = .non
 | .bool b,v=>v = .bl b
 | .int i,v=>v = .int i
 | .str x,v=>v = .str x
 | .list d,v=>∃a c,v = .ref a/\II K H a c/\PR K H d c
 | .tuple d,v=>∃a c,v = .ref a/\IV K H a c/\PR K H d c
 | .dict _,_=>False
def PR(K:VA)(H:Hp):A0 PyData->A0 V->Prop
 | [],a=>a = []
 | d::b,a=>∃v r,a=v::r/\Rp K H d v/\PR K H b r
end
section
variable{X:Cx}{pins:A0 (A3×Obj)}{σ:St}{H:Hp}{s:A4}
mutual
theorem Inv.reads(I:Inv X pins σ H s):∀(d:PyData) (v:V) (u:A2),Rp X.K H d v->RelV v u->∃as,Reads s.heap u d as
 | .none,v,u,h,r=>by
  cases(show v = .non by simpa [Rp] using h);cases r;exact⟨_,.none⟩
 | .bool b,v,u,h,r=>by
  cases(show v = .bl b by simpa [Rp] using h);cases r;exact⟨_,.bool b⟩
 | .int i,v,u,h,r=>by
  cases(show v = .int i by simpa [Rp] using h);obtain⟨t,rfl⟩:=r;exact⟨_,.int i t⟩
 | .str x,v,u,h,r=>by
  cases(show v = .str x by simpa [Rp] using h);obtain⟨t,rfl⟩:=r;exact⟨_,.str x t⟩
 | .list j,v,u,h,r=>by
  obtain⟨a,c,e,k,l⟩:=(show ∃a c,v=V.ref a/\II X.K H a c/\PR X.K H j c by simpa [Rp] using h);subst e;cases r;obtain⟨f,m,⟨o,n,e,p,q,g⟩,_⟩:=I.list k;obtain⟨as,z⟩:=I.readsAll j c f l m;exact⟨_,.list e p g (by simpa using z)⟩
 | .tuple j,v,u,h,r=>by
  obtain⟨a,c,e,k,l⟩:=(show ∃a c,v=V.ref a/\IV X.K H a c/\PR X.K H j c by simpa [Rp] using h);subst e;cases r;obtain⟨f,m,⟨o,e,p,n,g⟩,_⟩:=I.tuple k;obtain⟨as,z⟩:=I.readsAll j c f l m;exact⟨_,.tuple e p g (by simpa using z)⟩
 | .dict _,v,u,h,r=>by simp[Rp]at h
theorem Inv.readsAll(I:Inv X pins σ H s):∀(ds:A0 PyData) (vs:A0 V) (us:A0 A2),PR X.K H ds vs->IJ vs us->∃as,ReadsAll s.heap us ds as
 | [],vs,us,h,r=>by
  cases(show vs = [] by simpa [PR] using h);cases r;exact⟨_,.nil⟩
 | d::ds,vs,us,h,r=>by
  obtain⟨v,a,e,b,c⟩:=(show ∃v r,vs=v::r/\Rp X.K H d v/\PR X.K H ds r by simpa [PR] using h);subst e;cases r with
  | cons f g =>
   obtain⟨as,z⟩:=I.reads d v _ b f;obtain⟨j,i⟩:=I.readsAll ds a _ c g;exact⟨_,.cons z i⟩
end
def Pl(d:PyData):Prop:=d.canLay0=true/\d.depth<=50
def Yy(K:VA):R2:=λx y H Q=>∃d e,Rp K H d x/\Rp K H e y/\Pl d/\Pl e/\Q (.bl (PyData.eqv d e)) H
def TL(K:VA):R2:=λx y H Q=>∃d e,Rp K H d x/\Rp K H e y/\Pl d/\Pl e/\Q (.bl (!PyData.eqv d e)) H
def zDj(m:X.A.units+64<cLine):KM X (compareOp .Eq) (Yy X.K):=by
 intro a s σ H x y v u Q I f g h;obtain⟨d,e,i,j,b,c,q⟩:=h;obtain⟨n,k⟩:=I.reads d x v i f;obtain⟨o,l⟩:=I.reads e y u j g;exact PySem.SeqAt.compareEq_reads k l b.1 c.1 (by have:=b.2;have:=c.2;lia) ⟨.bl (PyData.eqv d e),H,I,rfl,q⟩
def zEa(m:X.A.units+64<cLine):KM X (compareOp .NotEq) (TL X.K):=by
 intro a s σ H x y v u Q I f g h;obtain⟨d,e,i,j,b,c,q⟩:=h;obtain⟨n,k⟩:=I.reads d x v i f;obtain⟨o,l⟩:=I.reads e y u j g;exact PySem.SeqAt.compareNe_reads k l b.1 c.1 (by have:=b.2;have:=c.2;lia) ⟨.bl (!PyData.eqv d e),H,I,rfl,q⟩
def SX(K:VA)(neg:Bool):R2:=λx y H Q=>∃d a,Rp K H d x/\(Rp K H (.list a) y\/Rp K H (.tuple a) y)/\Pl d/\PyData.canLayAll0 a=true/\Q (.bl (if neg then !(a.any λz=>PyData.eqv z d)else a.any λz=>PyData.eqv z d)) H
def zDm(n:X.A.units+64<cLine):KM X (compareOp .In) (SX X.K false):=by
 intro f s σ H x y v u Q I k g h;obtain⟨d,b,l,h2,c,i,q⟩:=h;obtain⟨o,j⟩:=I.reads d x v l k;have a:X.A.units+1+min (PyData.depthAll b) d.depth<cLine:=by have:=c.2;lia
 rcases h2 with h2 | h2
 .obtain⟨m,e⟩:=I.reads (.list b) y u h2 g;exact PySem.SeqAt.in_list_reads e j i c.1 a ⟨.bl _,H,I,rfl,q⟩
 .obtain⟨m,e⟩:=I.reads (.tuple b) y u h2 g;exact PySem.SeqAt.in_tuple_reads e j i c.1 a ⟨.bl _,H,I,rfl,q⟩
def To(n:X.A.units+64<cLine):KM X (compareOp .NotIn) (SX X.K true):=by
 intro f s σ H x y v u Q I k g h;obtain⟨d,b,l,h2,c,i,q⟩:=h;obtain⟨o,j⟩:=I.reads d x v l k;have a:X.A.units+1+min (PyData.depthAll b) d.depth<cLine:=by have:=c.2;lia
 rcases h2 with h2 | h2
 .obtain⟨m,e⟩:=I.reads (.list b) y u h2 g;exact PySem.SeqAt.notIn_list_reads e j i c.1 a ⟨.bl _,H,I,rfl,q⟩
 .obtain⟨m,e⟩:=I.reads (.tuple b) y u h2 g;exact PySem.SeqAt.notIn_tuple_reads e j i c.1 a ⟨.bl _,H,I,rfl,q⟩
end
section
variable{X:Cx}
def Sj(K:VA):V->A0 V->Hp->VK->Prop:=λx b H Q=>∃(l:A3) (a:A0 Str) (y:Str) (j:Nat),x = .ref l/\b = [.str y]/\II K H l (a.map V.str)/\a[j]?=some y/\(∀m,m<j->a[m]?≠some y)/\Q (.int (j:Nat)) H
theorem Y4{ss:A0 Str}{us:A0 A2}(h:IJ (ss.map V.str) us){i:Nat}(hi:i<us.length):∃x t,ss[i]?=some x/\us[i] = .str x t:=by
 have b:=h.length;rw[AB]at b;obtain⟨x,a⟩:∃x,ss[i]?=some x:=⟨ss[i]'(by lia),AF (by lia)⟩;obtain⟨u,c,t,rfl⟩:=h.get (i:=i) (x:=.str x) (by rw[AH,a];rfl);refine⟨x,t,a,?_⟩;have:=AF hi;rw[c]at this;exact(BU this).symm
theorem Rx:PX X "list.index" (Sj X.K):=by
 intro B s σ H x W v Y Q I L M h;obtain⟨l,Z,y,j,rfl,rfl,N,C,k,q⟩:=h;cases L;obtain⟨u,rfl,⟨D,rfl⟩⟩:=M.one;obtain⟨a,r,⟨o,n,e,E,O,c⟩,G⟩:=I.list N;have d:=r.length;rw[AB]at d G;have b:j<a.length:=by
  have:=(AK.mp C).1;lia
 obtain⟨P,R,J,S⟩:=o;simp only at E O c;subst E c
 let p:A2->Bool:=λv=>match v with | .str x _=>x == y | _=>false
 have T:=PySem.SeqAt.list_indexAt l a.toArray n R S (.str y D) p j (by simpa using b) (by rw[sizeLine_eq]at G;lia) ?_ ?_
 .refine call_meets F.slot_list_index ⟨_,e,rfl⟩ F.entry_list_index (F.args_list_index_2 _ _) T ⟨e,?_,?_⟩
  .intro v U;have w:v∈a:=by simpa using U
   obtain⟨i,V,rfl⟩:=List.getElem_of_mem w;obtain⟨x,t,_,f⟩:=Y4 r V;rw[f];exact PySem.SeqAt.EqAt.str_str x t y D
  .exact⟨.int (j:Nat),H,I.tok _,⟨_,rfl⟩,q⟩
 .obtain⟨x,t,g,f⟩:=Y4 r b;rw[C]at g;cases g;show p (a.toArray[j]'(by simpa using b))=true;rw[show a.toArray[j]'(by simpa using b)=a[j]from by simp,f];exact beq_self_eq_true y
 .intro m hm z;have A:m<a.length:=by simpa using hm
  obtain⟨x,t,g,f⟩:=Y4 r A;show p (a.toArray[m]'hm)=false;rw[show a.toArray[m]'hm=a[m]from by simp,f];show(x == y)=false;rw[beq_eq_false_iff_ne];rintro rfl;exact k m z g
end
end L2
namespace L2
open PySem PySem.Spec PyProof.Rows
section
variable{X:Cx}
def Jd(x:Str)(n:Nat):Str:=⟨(List.replicate n x.cps).foldl (· ++ ·) #[]⟩
theorem Vt(x:Str):Jd x 1=x:=by
 unfold Jd;simp
theorem Hz:∀(n:Nat) (a:HW Nat),(List.replicate n (#[]:HW Nat)).foldl (· ++ ·) a=a
 | 0,_=>rfl
 | n+1,a=>by rw[DB,GA,Array.append_empty];exact Hz n a
theorem Lk(a:HW Nat):∀(n:Nat) (b:HW Nat),((List.replicate n a).foldl (· ++ ·) b).size=b.size+n*a.size
 | 0,_=>by simp
 | n+1,b=>by rw[DB,GA,Lk a n,HL,Nat.succ_mul];lia
theorem Ou:KM X (binaryOp .Mult) (λx y H Q=>∃z i n,x = .str z/\y = .int i/\i =((n:Nat):Int)/\n<=100/\z.length<=1000/\Q (.str (Jd z n)) H):=by
 intro j s σ H x y v u Q I l m h;obtain⟨z,i,n,rfl,rfl,w,o,e,q⟩:=h;obtain⟨t,rfl⟩:=l;obtain⟨A,rfl⟩:=m;have d:z.length=z.cps.size:=rfl;refine PySem.P.mul_str ?_ ?_ ?_ ?_
 .rw[AM (by lia),AM (by lia)];rfl
 .intro f _ p;have k:(z.length:Int)*i<=1000*100:=Int.mul_le_mul (by lia) (by lia) (by lia) (by lia);have:=Int.le_ediv_of_mul_le (a:=(z.length:Int)) (b:=2^63-1) (c:=i) (by lia) (by lia);lia
 .intro _ _;have k:z.length*i.toNat<=1000*100:=Nat.mul_le_mul e (by lia);unfold Builtin.Str.tooLong;exact AM (by rw[sizeLine_eq];lia)
 .have r:i.toNat=n:=by lia
  rw[r];by_cases f:i<1
  .rw[AN f];have:n=0:=by lia
   subst this;exact⟨by decide,.str (Jd z 0),H,I.tok _,⟨_,rfl⟩,q⟩
  .rw[AI f];by_cases g:(i == 1||z.length == 0)=true
   .rw[AN g];have e:Jd z n=z:=by
     rcases Bool.or_eq_true _ _▸g with z1 | z1
     .have:n=1:=by have:=eq_of_beq z1;lia
      subst this;exact Vt z
     .have:z.cps = #[]:=Array.eq_empty_of_size_eq_zero (by rw[d]at z1;exact eq_of_beq z1);unfold Jd;rw[this,Hz];cases z;simp at this;rw[this]
    rw[e]at q;exact⟨.str z,H,I,⟨t,rfl⟩,q⟩
   .rw[AI g];refine⟨?_,.str (Jd z n),H,I.tok _,⟨_,rfl⟩,q⟩;show(Jd z n).cps.size<=sizeLine;unfold Jd;rw[Lk,sizeLine_eq];have k:n*z.cps.size<=100*1000:=Nat.mul_le_mul o (by rw[<-d];exact e);simp only[Array.size_empty];lia
set_option genInjectivity false in
structure Fn(K:VA)(mg:Str->A5 A2)(x:Str)(st:IP)(ps:A0 Str) where
 f:A3
 fd:IW
 F:PY K x x st f fd
 b:Binds K fd ps []
 m:mg x=some (.ref f)
set_option genInjectivity false in
structure Mt(K:VA)(C:A3)(m qual:Str)(st:IP)(ps:A0 Str) where
 f:A3
 fd:IW
 F:PY K m qual st f fd
 b:Binds K fd ps []
 m:QM K C m f
theorem C9{x:Str}{st:IP}{ps:A0 Str}{k:Nat}{sp:Sp}{e:IG}{a:A0 IG}{t:TA}{p c:Pos}(D:Fn X.K X.mg x st ps)(G:IM X.prog X.w X.K X.mg X.base JR k D.f D.fd ps sp)(h:JV k X.A)(i:PA X (e::a) t)
  (j:Gl X x:=by rfl) (d:(x ==("__debug__":Str))=false:=by decide) (l:starEach (e::a) X.env =(false,eval e X.env)::starEach a X.env:=by rfl) (g:(backTo c (starEach a X.env)).any (·.1)=false:=by rfl) :
  PE X (.Call (.Name x p) (e::a) [] c) (Sh sp [] E0 t):=zBg G h j D.m D.F.kp D.b .nil J6 i d l g
def Sf(P:HX)(w:HZ)(x:V)(H:Hp):Prop:=∃p,x = .ref p/\((∃l,H p=some (Pi P w p l))\/(∃l,H p=some (Bq w p l))\/∃a,H p=some (Pg P w p a))
theorem zCv{c:A0 (A3×Obj)}{σ:St}{H:Hp}{s:A4}{x:V}{v:A2}(I:Inv X c σ H s)(r:RelV x v)(ty:Sf X.prog X.w x H):s.TypeIs v "set"/\∀a,v = .ref a->∃d,s.heap.get? a=some d/\d.dict=none:=by
 obtain⟨p,rfl,h⟩:=ty;cases r;have z:∃o,s.heap.get? p=some o/\o.ExactSet:=by
  rcases h with⟨l,h⟩ | ⟨l,h⟩ | ⟨l,h⟩
  .obtain⟨o,_,_,_,e,b,_⟩:=I.set h;exact⟨o,e,b⟩
  .obtain⟨o,_,_,_,S,_⟩:=I.setw h;exact⟨o,S.ho,S.ex⟩
  .obtain⟨o,_,_,_,e,b,_⟩:=I.sett h;exact⟨o,e,b⟩
 obtain⟨o,e,b⟩:=z;refine⟨⟨o,e,b.1⟩,λa f=>?_⟩;cases f;exact⟨o,e,b.2.1⟩
def zHo(P:HX)(w:HZ)(r:V->A0 V->Hp->VK->Prop)(b:TE)(t:TA):TE:=λσ H Q=>b σ H λx a=>Sf P w x a/\t σ a λc d=>r x c d Q
theorem zAl{o e:IG}{i:TE}{t:TA}{c a:Pos}{r:V->A0 V->Hp->VK->Prop}(m:PX X "set.add" r)(n:PE X o i)(p:PA X [e] t)
  (d:attributeBase o "add" X.env (eval o X.env)=eval o X.env:=by rfl)
  (g:((backTo a (starEach [e] X.env)).all (λx=>!x.1) &&(backToKw a (keywordEach [] X.env)).all (λx=>x.1.isSome)
   && decide ([e].length +([]:A0 Keyword).length +(if([]:A0 Keyword).isEmpty then 0 else 1)<30))=true:=by rfl)
  (f:(c.endLine == a.line)=true:=by rfl) (q:starEach [e] X.env = [(false,eval e X.env)]:=by rfl) :
  PE X (.Call (.Attribute o "add" c) [e] [] a) (zHo X.prog X.w r i t):=by
 intro b s σ H Q I h;refine wpAny_Call_method_late d g f rfl (JB (n b s σ H _ I h) λv u ⟨x,y,j,k,ty,z⟩=>?_);obtain⟨A,B⟩:=zCv j k ty;refine⟨"set", "set.add",F.plainAttrs_set,F.slot_set_add,F.type_set_add,A,B,?_⟩;have l:=p a b u σ y _ j z;rw[q]at l⊢;refine Calls.callWith_builtin rfl (Calls.evalArgs_plain ?_);exact JB l λC D ⟨E,G,J,K,L⟩=>m b D σ G x E v C Q J k K L
theorem zHc{x:Str}{i:Int}{a:Pos}(h:∃t,X.mg x=some (.int i t))(b:Gl X x:=by rfl)(c:(x ==("__debug__":Str))=false:=by decide):PE X (.Name x a) (tC (.int i)):=by
 obtain⟨t,e⟩:=h;exact Rv b e ⟨t,rfl⟩ c
theorem zFw{x y:Str}{a:Pos}(h:∃t,X.mg x=some (.str y t))(b:Gl X x:=by rfl)(c:(x ==("__debug__":Str))=false:=by decide):PE X (.Name x a) (tC (.str y)):=by
 obtain⟨t,e⟩:=h;exact Rv b e ⟨t,rfl⟩ c
theorem m9{x:Str}{n:String}{a:Pos}(b:X.mg x=none)(c:bootBuiltins x=some (.type n))(d:Gl X x:=by rfl)(e:x≠ "__name__":=by decide)(f:(x ==("__debug__":Str))=false:=by decide):PE X (.Name x a) (tC (.ty n)) :=
 zAv d b c rfl e f
theorem G7{x:Str}{id:String}{r:A0 V->Hp->VK->Prop}{e:IG}{a:A0 IG}{t:TA}{p b:Pos}(f:J8 X (.builtin id) r)(g:X.mg x=none)(h:bootBuiltins x=some (.builtin id))(i:PA X (e::a) t)(j:Gl X x:=by rfl)(k:x≠ "__name__":=by decide)(c:(x ==("__debug__":Str))=false:=by decide)
  (l:starEach (e::a) X.env =(false,eval e X.env)::starEach a X.env:=by rfl) (d:(backTo b (starEach a X.env)).any (·.1)=false:=by rfl):PE X (.Call (.Name x p) (e::a) [] b) (SF r t):=Wh f j g h i k c l d
theorem Ag{x:Str}{T:String}{r:A0 V->Hp->VK->Prop}{e:IG}{a:A0 IG}{t:TA}{p b:Pos}(f:J8 X (.type T) r)(g:X.mg x=none)(h:bootBuiltins x=some (.type T))(i:PA X (e::a) t)(j:Gl X x:=by rfl)(k:x≠ "__name__":=by decide)(c:(x ==("__debug__":Str))=false:=by decide)
  (l:starEach (e::a) X.env =(false,eval e X.env)::starEach a X.env:=by rfl) (d:(backTo b (starEach a X.env)).any (·.1)=false:=by rfl):PE X (.Call (.Name x p) (e::a) [] b) (SF r t):=Rs f j g h i k c l d
theorem P0{a:KR}{cl:A0 (Str×A3)}{N':A0 Str}{cap:A0 (A5 Nat)}(c:OD X a cl N' cap)(e:QW X cl)(d:closureFor a X.env=pure cl:=by rfl)(kind:a.kind = .function:=by rfl)(b:∀y∈a.names,y.2≠ .cell:=by decide +kernel)
  (f:∀y∈a.names,y.2 = .local->a.names.lookup y.1=some .local:=by decide +kernel) (g:((relabel a X.env).names.all λy=>!(y.2 == .cell||y.2 == .free)||(cl.lookup y.1).isSome)=true:=by rfl):MN X a cl N' cap:=⟨kind,b,f,d,e,g,c⟩
theorem LM{a:KR}{cl:A0 (Str×A3)}{N':A0 Str}{b:A0 (A3×Obj)}{c:A0 A3}{d:A4}{e:Hp}{x:Str}{f:Pos}(i:Nat)(g:N'.Nodup:=by decide +kernel)(hi:N'[i]?=some x:=by rfl)(h:Loc (LZ X a cl N' b c d e).env.scope x:=by exact Or.inl rfl)
  (j:(LZ X a cl N' b c d e).env.scope.names.lookup x=some .local:=by rfl):PG (LZ X a cl N' b c d e) (.Name x f) (P2 i):=J0 (X:=LZ X a cl N' b c d e) g hi h (.inr j)
def M9:bootBuiltins "len" = some (.builtin "len"):=by decide +kernel
def Hr:bootBuiltins "enumerate" = some (.type "enumerate"):=by decide +kernel
def zEn:bootBuiltins "min" = some (.builtin "min"):=by decide +kernel
def zFa:bootBuiltins "max" = some (.builtin "max"):=by decide +kernel
def Xk:bootBuiltins "abs" = some (.builtin "abs"):=by decide +kernel
def N8:bootBuiltins "sorted" = some (.builtin "sorted"):=by decide +kernel
def Yk:bootBuiltins "int" = some (.type "int"):=by decide +kernel
def Mg:bootBuiltins "str" = some (.type "str"):=by decide +kernel
def Jt:bootBuiltins "bool" = some (.type "bool"):=by decide +kernel
def S9:bootBuiltins "list" = some (.type "list"):=by decide +kernel
def Be:bootBuiltins "tuple" = some (.type "tuple"):=by decide +kernel
def So:bootBuiltins "set" = some (.type "set"):=by decide +kernel
def E4:bootBuiltins "isinstance" = some (.builtin "isinstance"):=by decide +kernel
def Ua:bootBuiltins "all" = some (.builtin "all"):=by decide +kernel
def JW(a:A3)(b H:Hp):Prop:=∀o,b a=some o->H a=some o
def Sm(D:A0 A3)(H H':Hp):Prop:=∀b o,H b=some o->b∉D->H' b=some o
def C3.at{b H:Hp}(h:C3 b H)(a:A3):JW a b H:=λo e=>h a o e
def C3.new{H:Hp}{p:A3}{o:HO}(h:H p=none):C3 H (H_ H p o):=λb u e=>by rw[B7 (B0 e h)];exact e
def C3.upd{a H:Hp}{p:A3}{o:HO}(s:C3 a H)(h:a p=none):C3 a (H_ H p o):=λb u e=>by rw[B7 (B0 e h)];exact s b u e
def C3.sm{D:A0 A3}{H H':Hp}(h:C3 H H'):Sm D H H':=λb o e _=>h b o e
def Sm.refl(D:A0 A3)(H:Hp):Sm D H H:=λ_ _ e _=>e
def Sm.trans{D:A0 A3}{H d e:Hp}(a:Sm D H d)(b:Sm D d e):Sm D H e:=λc o h n=>b c o (a c o h n) n
def Sm.new{D:A0 A3}{H c:Hp}{p:A3}{o:HO}(a:Sm D H c)(h:c p=none):Sm D H (L2.H_ c p o):=λb u e n=>by
 have:=a b u e n;rw[B7 (B0 this h)];exact this
def Sm.upd{D:A0 A3}{H c:Hp}{p:A3}{o:HO}(a:Sm D H c)(h:p∈D):Sm D H (L2.H_ c p o):=λb u e n=>by
 rw[B7 (show b≠p from λz=>n (by rw[z];exact h))];exact a b u e n
def Sm.updN{D:A0 A3}{H c:Hp}{p:A3}{o:HO}(a:Sm D H c)(h:H p=none):Sm D H (L2.H_ c p o):=λb u e n=>by rw[B7 (B0 e h)];exact a b u e n
def JW.seqL{K:VA}{H H':Hp}{a:A3}{xs:A0 V}(e:JW a H H')(h:II K H a xs):II K H' a xs:=by
 rcases h with(h | ⟨o,h⟩) | h
 .exact .inl (.inl (e _ h))
 .exact .inl (.inr ⟨o,e _ h⟩)
 .exact .inr h
def JW.seqT{K:VA}{H H':Hp}{a:A3}{xs:A0 V}(e:JW a H H')(h:IV K H a xs):IV K H' a xs:=by
 rcases h with(h | ⟨o,h⟩) | h
 .exact .inl (.inl (e _ h))
 .exact .inl (.inr ⟨o,e _ h⟩)
 .exact .inr h
def QQ(K:VA)(H:Hp)(a:A3)(xs:A0 V):Prop:=II K H a xs\/IV K H a xs
def JW.seq{K:VA}{H H':Hp}{a:A3}{xs:A0 V}(e:JW a H H')(h:QQ K H a xs):QQ K H' a xs:=h.imp e.seqL e.seqT
structure NQ(J:It)(xs:A0 V)(a:A3)(H0:Hp):Prop where
 go:∀H i,JW a H0 H->i<xs.length->J.go i H
 stop:∀H,JW a H0 H->J.stop xs.length H
 yld:∀H i x H',JW a H0 H->i<xs.length->J.yld i H x H'->H'=H/\xs[i]?=some x
def PP{K:VA}{b:Hp}{a:A3}{xs:A0 V}(h:II K b a xs):NQ (QF K a) xs a b :=
 ⟨λH i k c=>⟨xs,xs[i],k.seqL h,AF c⟩,λH k=>⟨xs,k.seqL h,VD _⟩,λH i x d k c ⟨e,y⟩=>⟨e,y xs (k.seqL h)⟩⟩
def asT{K:VA}{b:Hp}{a:A3}{xs:A0 V}(h:IV K b a xs):NQ (Itt K a) xs a b :=
 ⟨λH i k c=>⟨xs,xs[i],k.seqT h,AF c⟩,λH k=>⟨xs,k.seqT h,VD _⟩,λH i x d k c ⟨e,y⟩=>⟨e,y xs (k.seqT h)⟩⟩
def Vu{J:It}{n:Nat}{g:TG}{f:TS}{D:Ends}{σ:St}{H:Hp}(Pv:Nat->St->Hp->Prop)(j:Pv 0 σ H)(b:∀i σ H,i<n->Pv i σ H->J.go i H)(c:∀σ H,Pv n σ H->J.stop n H)
  (k:∀i σ H x H',i<n->Pv i σ H->J.yld i H x H'->g x σ H' λσ2 d=>f { D with nx:=Pv (i+1),ct:=Pv (i+1),bk:=D.nx } σ2 d) (l:∀σ H,Pv n σ H->D.nx σ H) :
  ∃W:Nat->Nat->St->Hp->Prop,(∃m,W 0 m σ H)/\∀i m σ H,W i m σ H ->
   (J.stop i H/\D.nx σ H)\/(J.go i H/\∃N:St->Hp->Prop,(∀σ' H',N σ' H'->∃h,h < m/\W (i+1) h σ' H')/\∀x H',J.yld i H x H'->g x σ H' λσ2 d=>f { D with nx:=N,ct:=N,bk:=D.nx } σ2 d):=by
 refine⟨λi m σ H=>m=n-i/\i<=n/\Pv i σ H,⟨n,by simp,CB _,j⟩,?_⟩;rintro i m σ H ⟨rfl,q,p⟩;by_cases a:i<n
 .exact .inr ⟨b i σ H a p,Pv (i+1),λσ' H' o=>⟨n-(i+1),by lia,rfl,a,o⟩,λx H' y=>k i σ H x H' a p y⟩
 .have e:i=n:=by lia
  subst e;exact .inl ⟨c σ H p,l σ H p⟩
def zCj{J:It}{xs:A0 V}{a:A3}{f:Hp}(as:NQ J xs a f){g:TG}{h:TS}{D:Ends}{σ:St}{H:Hp}(Pv:Nat->St->Hp->Prop)(k:Pv 0 σ H)(c:∀i σ H,i<=xs.length->Pv i σ H->JW a f H)
  (l:∀i σ H x,xs[i]?=some x->Pv i σ H->g x σ H λσ2 d=>h { D with nx:=Pv (i+1),ct:=Pv (i+1),bk:=D.nx } σ2 d) (o:∀σ H,Pv xs.length σ H->D.nx σ H) :
  ∃W:Nat->Nat->St->Hp->Prop,(∃m,W 0 m σ H)/\∀i m σ H,W i m σ H ->
   (J.stop i H/\D.nx σ H)\/(J.go i H/\∃N:St->Hp->Prop,(∀σ' H',N σ' H'->∃j,j < m/\W (i+1) j σ' H')/\∀x H',J.yld i H x H'->g x σ H' λσ2 d=>h { D with nx:=N,ct:=N,bk:=D.nx } σ2 d) :=
 Vu (n:=xs.length) Pv k (λi σ H b p=>as.go H i (c i σ H (DR b) p) b) (λσ H p=>as.stop H (c _ σ H (VD _) p)) (λi σ H x H' b p y=>by
  obtain⟨rfl,e⟩:=as.yld H i x H' (c i σ H (DR b) p) b y;exact l i σ _ x e p) o
def Eg{J:It}{n:Nat}{g:TG}{f:TT}{em:RV}{σ:St}{H:Hp}{Q:St->Hp->Prop}(Pv:Nat->St->Hp->Prop)(j:Pv 0 σ H)(c:∀i σ H,i<n->Pv i σ H->J.go i H)(d:∀σ H,Pv n σ H->J.stop n H)
  (k:∀i σ H x H' (N:St->Hp->Prop),i<n->Pv i σ H->J.yld i H x H'->(∀σ' H',Pv (i+1) σ' H'->N σ' H')->g x σ H' λσ2 l=>f σ2 l λb h=>if b=true then em σ2 h N else N σ2 h)
  (o:∀σ H,Pv n σ H->Q σ H):Ax g f em J σ H Q:=by
 refine⟨λi m σ H=>m=n-i/\i<=n/\Pv i σ H,⟨n,by simp,CB _,j⟩,?_⟩;rintro i m σ H ⟨rfl,r,p⟩;by_cases a:i<n
 .exact .inr ⟨c i σ H a p,λx H' y=>k i σ H x H' _ a p y λσ3 s q=>⟨n-(i+1),by lia,rfl,a,q⟩⟩
 .have e:i=n:=by lia
  subst e;exact .inl ⟨d σ H p,o σ H p⟩
def P8{J:It}{xs:A0 V}{a:A3}{f:Hp}(as:NQ J xs a f){g:TG}{h:TT}{em:RV}{σ:St}{H:Hp}{Q:St->Hp->Prop}(Pv:Nat->St->Hp->Prop)(k:Pv 0 σ H)(d:∀i σ H,i<=xs.length->Pv i σ H->JW a f H)
  (l:∀i σ H x (N:St->Hp->Prop),xs[i]?=some x->Pv i σ H->(∀σ' H',Pv (i+1) σ' H'->N σ' H')->g x σ H λσ2 m=>h σ2 m λb j=>if b=true then em σ2 j N else N σ2 j)
  (o:∀σ H,Pv xs.length σ H->Q σ H):Ax g h em J σ H Q :=
 Eg (n:=xs.length) Pv k (λi σ H c p=>as.go H i (d i σ H (DR c) p) c) (λσ H p=>as.stop H (d _ σ H (VD _) p)) (λi σ H x H' N c p y q=>by
  obtain⟨rfl,e⟩:=as.yld H i x H' (d i σ H (DR c) p) c y;exact l i σ _ x N e p q) o
def Cj{em:RV}{N:St->Hp->Prop}{σ:St}{H:Hp}{i:Nat}{x:V}(h:em (σ.set i (some x)) H N):P2 i x σ H λσ2 c=>Ih σ2 c λb a=>if b=true then em σ2 a N else N σ2 a:=by
 show if true=true then em (σ.set i (some x)) H N else N (σ.set i (some x)) H
 rw[AN rfl];exact h
section
variable{X:Cx}(K:VA)(P:HX)(w:HZ){tg:IG}
theorem NB{l:IG}{tl:TE}(a:PE X l tl)(b:X.K=K:=by rfl):PI X tg l (zEw K tl):=by subst b;exact Zn a
theorem piT{l:IG}{tl:TE}(a:PE X l tl)(b:X.K=K:=by rfl):PI X tg l (zFs K tl):=by subst b;exact zCl a
theorem Zl{a:IG}{c:TA}{p b:Pos}(d:X.mg "range" = none)(e:PA X [a] c)(f:Gl X "range":=by rfl)(g:starEach [a] X.env = [(false,eval a X.env)]:=by rfl):PI X tg (.Call (.Name "range" p) [a] [] b) (zCa c):=Se f d e g
theorem RC{a:A0 IG}{k:Nat}{t:RF}{n:Nat}{b:Pos}(h:SQ X a t)(d:X.calm=true:=by rfl)(e:(assignEach a X.env).length=n:=by rfl)(c:(assignEach a X.env).findIdx? (·.1)=none:=by rfl)(f:X.K=K:=by rfl):PG X (.Tuple a k b) (SV K n t):=by subst f;exact zDl d h e c
theorem NE{e:IG}{b:TE}{f:Str}{a:Pos}(c:PE X e b)(d:attributeBase e f X.env (eval e X.env)=eval e X.env:=by rfl)(g:X.K=K:=by rfl):PE X (.Attribute e f a) (zHu K b f):=by subst g;exact zDc c d
theorem RB{o a:IG}{d e:TE}{f:Str}{c b:Pos}(g:PE X o d)(h:PE X a e)(i:swapsWith a (some (.Attribute o f b)) c.line X.env=pure false:=by rfl)(j:X.K=K:=by rfl):PS X (.Assign [.Attribute o f b] a c) (zHp K d e f):=by subst j;exact zEy g h i
theorem Q2(b:X.K=K:=by rfl):J8 X (.builtin "len") (λxs H Q=>∃p a,xs = [.ref p]/\(II K H p a\/IV K H p a)/\Q (.int a.length) H):=by subst b;exact Hq
theorem X7(b:X.K=K:=by rfl):J8 X (.type "list") (λxs H Q=>∃p a,xs = [.ref p]/\(II K H p a\/IV K H p a)/\∀l,H l=none->Q (.ref l) (H_ H l (.lst a))):=by subst b;exact Je
theorem Sd(a:X.calm=true:=by rfl)(b:X.K=K:=by rfl):J8 X (.builtin "all") (λxs H Q=>∃(p:A3) (bs:A0 Bool),xs = [.ref p]/\II K H p (bs.map V.bl)/\Q (.bl (bs.all id)) H):=by subst b;exact Wl a
theorem w4(b:X.K=K:=by rfl):J8 X (.builtin "sorted") (λxs H Q=>∃(p:A3) (ss:A0 Str),xs = [.ref p]/\II K H p (ss.map V.str)/\∀(l:A3) (a:A0 Str),H l=none->a.Perm ss->a.Pairwise NR->Q (.ref l) (H_ H l (.lst (a.map V.str)))):=by subst b;exact Am
theorem Ft(b:X.K=K:=by rfl):J8 X (.builtin "sorted") (λxs H Q=>∃(p:A3) (ps:A0 IQ),xs = [.ref p]/\II K H p (ps.map λq=>V.ref q.1)/\(∀q∈ps,G9 H q)/\∀(l:A3) (a:A0 IQ),H l=none->a.Perm ps->a.Pairwise QH->Q (.ref l) (H_ H l (.lst (a.map λq=>V.ref q.1)))):=by subst b;exact Hn
theorem Vi(b:X.calm=true:=by rfl)(hw:X.w=w:=by rfl):J8 X (.builtin "sorted") (λxs H Q=>∃(p:A3) (ss:A0 Str),xs = [.ref p]/\H p=some (Bq w p ss)/\∀(l:A3) (a:A0 Str),H l=none->a.Perm ss->a.Pairwise NR->Q (.ref l) (H_ H l (.lst (a.map V.str)))):=by subst hw;exact Ja b
theorem Q7(a:X.K=K:=by rfl):J8 X (.builtin "isinstance") (λxs H Q=>∃x n t b,xs = [x,.ty n]/\MJ K H x t/\PySem.W.kitOne K t (.type n)=some b/\Q (.bl b) H):=by subst a;exact Su
theorem Zs(a:X.prog=P:=by rfl)(hw:X.w=w:=by rfl):J8 X (.type "set") (λxs H Q=>xs = []/\∀p,H p=none->Q (.ref p) (H_ H p (Pi P w p []))):=by subst a;subst hw;exact Ud
theorem Va(a:X.prog=P:=by rfl)(hw:X.w=w:=by rfl):J8 X (.type "set") (λxs H Q=>xs = []/\∀p,H p=none->Q (.ref p) (H_ H p (Pg P w p []))):=by subst a;subst hw;exact Ni
theorem zGh(a:X.A.units+64<cLine)(b:X.K=K:=by rfl):KM X (compareOp .In) (SX K false):=by subst b;exact zDm a
theorem Mh(a:X.A.units+64<cLine)(b:X.K=K:=by rfl):KM X (compareOp .NotIn) (SX K true):=by subst b;exact To a
theorem Og(a:X.A.units+64<cLine)(b:X.K=K:=by rfl):KM X (compareOp .Eq) (Yy K):=by subst b;exact zDj a
theorem Xg(a:X.A.units+64<cLine)(b:X.K=K:=by rfl):KM X (compareOp .NotEq) (TL K):=by subst b;exact zEa a
theorem Od(a:X.K=K:=by rfl):KM X (compareOp .In) (SJ K false):=by subst a;exact Sr
theorem w9(a:X.K=K:=by rfl):KM X (compareOp .NotIn) (SJ K true):=by subst a;exact Ii
theorem zGu(a:X.prog=P:=by rfl)(hw:X.w=w:=by rfl):KM X (compareOp .In) (zHq P w false):=by subst a;subst hw;exact Sk
theorem zGm(a:X.A.units+1<cLine)(b:X.prog=P:=by rfl)(hw:X.w=w:=by rfl):KM X (compareOp .In) (zHr P w):=by subst b;subst hw;exact Ny a
theorem zFb(a:X.prog=P:=by rfl)(hw:X.w=w:=by rfl):PX X "set.add" (zEg P w):=by subst a;subst hw;exact zBz
theorem zDd(a:X.A.units+1<cLine)(b:X.prog=P:=by rfl)(hw:X.w=w:=by rfl):PX X "set.add" (zDk P w):=by subst b;subst hw;exact zAo a
theorem Tq{o e:IG}{g:TE}{t:TA}{b a:Pos}{r:V->A0 V->Hp->VK->Prop}(h:PX X "set.add" r)(i:PE X o g)(j:PA X [e] t)
  (c:attributeBase o "add" X.env (eval o X.env)=eval o X.env:=by rfl)
  (f:((backTo a (starEach [e] X.env)).all (λx=>!x.1) &&(backToKw a (keywordEach [] X.env)).all (λx=>x.1.isSome)
   && decide ([e].length +([]:A0 Keyword).length +(if([]:A0 Keyword).isEmpty then 0 else 1)<30))=true:=by rfl)
  (d:(b.endLine == a.line)=true:=by rfl) (k:starEach [e] X.env = [(false,eval e X.env)]:=by rfl) (l:X.prog=P:=by rfl) (hw:X.w=w:=by rfl) :
  PE X (.Call (.Attribute o "add" b) [e] [] a) (zHo P w r g t):=by subst l;subst hw;exact zAl h i j c f d k
theorem KQ(a:X.K=K:=by rfl):TD X (S1 K):=by subst a;exact Zb
theorem OW(a:X.K=K:=by rfl):TD X (zHs K):=by subst a;exact zCw
theorem Mi(a:X.K=K:=by rfl):PX X "list.index" (Sj K):=by subst a;exact Rx
theorem ptV{a:IG}{c:TE}(d:PE X a c)(e:∀b,isTrue a X.env b =(do let v <-b;standAt a.pos;holding [v] (truthy v)):=by intro _;rfl)(f:X.K=K:=by rfl):PT X a (λσ H Q=>c σ H λx H'=>∃k,zGe K x H' k/\Q k H'):=by subst f;exact Vm d e
theorem Ph{T id:String}{name:Str}{o e:IG}{d:A0 IG}{k:TE}{t:TA}{c a:Pos}{r:V->A0 V->Hp->VK->Prop}(l:PlainAttrs T)(h:Slot T name id)(j:typeOf (.builtin id)=pure (.type "method_descriptor"))(m:PX X id r)(n:PE X o k)(p:PA X (e::d) t)
  (f:attributeBase o name X.env (eval o X.env)=eval o X.env:=by rfl)
  (i:((backTo a (starEach (e::d) X.env)).all (λx=>!x.1) &&(backToKw a (keywordEach [] X.env)).all (λx=>x.1.isSome)
   && decide ((e::d).length +([]:A0 Keyword).length +(if([]:A0 Keyword).isEmpty then 0 else 1)<30))=true:=by rfl)
  (g:(c.endLine == a.line)=true:=by rfl) (q:starEach (e::d) X.env =(false,eval e X.env)::starEach d X.env:=by rfl) (b:(backTo a (starEach d X.env)).any (·.1)=false:=by rfl) (s:X.K=K:=by rfl) :
  PE X (.Call (.Attribute o name c) (e::d) [] a) (tBM K T r k t):=by subst s;exact zGj l h j m n p f i g q b
theorem zGq{T id:String}{name:Str}{o:IG}{g:TE}{a b:Pos}{r:V->A0 V->Hp->VK->Prop}(h:PlainAttrs T)(e:Slot T name id)(f:typeOf (.builtin id)=pure (.type "method_descriptor"))(i:PX X id r)(j:PE X o g)
  (c:attributeBase o name X.env (eval o X.env)=eval o X.env:=by rfl) (d:(a.endLine == b.line)=true:=by rfl) (k:X.K=K:=by rfl):PE X (.Call (.Attribute o name a) [] [] b) (zHv K T r g):=by subst k;exact zFi h e f i j c d
end
section
variable{prog:HX}{w:HZ}{A:IE}{E:A2->A4->Prop}{s:A4}
theorem Ki{t:A3}{vs:A0 A2}{Q:A0 A2->A4->Prop}(k:IsTup s.heap t vs.toArray)(hsz:vs.length<=sizeLine)(h:∀h',(∀b u,s.heap.get? b=some u->h'.get? b=some u)->s.heap.objs.size<=h'.objs.size->Q vs { s with heap:=h' }):wpAny (model prog w) A (collect (.ref t)) Q E s:=by
 obtain⟨o,m,p,n,q⟩:=k;unfold collect;refine AA (wpAny_runValue (DI F.entry_proto_collect ?_));rw[show A.under _=A.in1 from Around.under_plainId F.plain_proto_collect _];show wpAny _ A.in1 (newList [] >>= λl=>again (.builtin "list.__iadd__" ⟨[l,.ref t],[]⟩)) _ _ s;refine AA (BV (AD ⟨plainId_quiet F.plain_list_iadd _,DI F.entry_list_iadd ?_⟩));rw[show A.under _=A.in1 from Around.under_plainId F.plain_list_iadd _];show wpAny _ A.in1 (Builtin.List.listExtendWith (.ref s.heap.objs.size) (.ref t) (.ref s.heap.objs.size)) _ _ _;have i:(s.heap.push { cls:=.type "list",data:=.seq ([]:A0 A2).toArray }).get? s.heap.objs.size=some { cls:=.type "list",data:=.seq #[] 0 }:=AW _ rfl;have v:=BZ (Obj.mapSeq (· ++ vs.toArray)) i rfl;have d:wpAny (model prog w) A (match Value.ref s.heap.objs.size with
   | Value.ref a=>do
    match(<-load a).data with
     | Data.seq x _=>pure x.toList
     | _=>unsupported "internal:collect"
   | _=>unsupported "internal:collect") Q E { s with heap:=(s.heap.push { cls:=.type "list",data:=.seq ([]:A0 A2).toArray }).update s.heap.objs.size (Obj.mapSeq (· ++ vs.toArray)) }:=by
  show wpAny _ A (load s.heap.objs.size >>= _) _ _ _;refine AA (wpAny_load v (AD ?_));show Q ((#[]:HW A2)++vs.toArray).toList _;rw[show((#[]:HW A2)++vs.toArray).toList=vs from by simp];exact h _ (λb u j=>(BH _ _ (GT (AG j))).trans (AC _ j)) (by rw[GS,CU];lia)
 refine B_ (wpAny_extend_seq (A:=A) (hsz:=by rw[AR];exact hsz) (R:=λr g=>r = .ok (.ret (.ref s.heap.objs.size))/\g ={ s with heap:=(s.heap.push { cls:=.type "list",data:=.seq ([]:A0 A2).toArray }).update s.heap.objs.size (Obj.mapSeq (· ++ vs.toArray)) })
  (s:={ s with heap:=s.heap.push { cls:=.type "list",data:=.seq ([]:A0 A2).toArray } }) _ t _ 0 (.inr rfl) i (AC _ m) p q ⟨rfl,rfl⟩) (λf g z=>?_) (λe g z=>absurd z.1 (by simp))
 match f,z with
 | .done f,⟨y,B⟩=>subst B;cases y;exact d
 | .again c,z=>exact⟨z.1,FK z.2 λr D C=>by obtain⟨rfl,rfl⟩:=C;exact d⟩
end
theorem Ir:J8 X (.builtin "sorted") (λxs H Q=>∃(p:A3) (ss:A0 Str),xs = [.ref p]/\QQ X.K H p (ss.map V.str)/\∀(l:A3) (a:A0 Str),H l=none->a.Perm ss->a.Pairwise NR->Q (.ref l) (H_ H l (.lst (a.map V.str)))):=by
 intro f s σ H xs c Q I r h;obtain⟨p,ss,rfl,hq,q⟩:=h;rcases hq with hq | hq
 .exact Am f s σ H _ c Q I r ⟨p,ss,rfl,hq,q⟩
 obtain⟨u,rfl,G⟩:=Y3 r;cases G;obtain⟨J,E,⟨o,i,L,n,M⟩,W⟩:=I.tuple hq;have j:=U7 E;have Y:=E.length;refine TS.KS (Ki ⟨o,i,L,n,M⟩ (by lia) λF N g=>?_);refine⟨rfl,by lia,strKind,oneType',λZ _=>TS.MP j,λout O e i k P=>?_⟩;obtain⟨m,R⟩:=i;have w:∀v∈out.toList,∃x t,v = .str x t:=λv z=>j.all v (m.mem_iff.mp z);have z:IJ ((out.toList.map strOf).map V.str) out.toList:=by
  have:∀c:A0 A2,(∀v∈c,∃x t,v = .str x t)->IJ ((c.map strOf).map V.str) c:=by
   intro c
   induction c with
   | nil=>exact λ_=>.nil
   | cons v r S =>
    intro h;obtain⟨x,t,rfl⟩:=h v (AX ..);exact .cons ⟨t,rfl⟩ (S λu A=>h u (AL _ A))
  exact this _ w
 have d:(out.toList.map strOf).Perm ss:=by
  have:=m.map strOf
  rwa [j.strs]at this
 have B:(out.toList.map strOf).Pairwise NR:=by
  rw[CT];refine(EJ.mp R).imp fun{u v} ⟨A,C,q⟩=>?_;obtain⟨x,t,rfl⟩:=w u A;obtain⟨y,t',rfl⟩:=w v C;have T:decide (y.cps.toList<x.cps.toList)=false:=q;exact HF T
 have D:∀b o,s.heap.get? b=some o->O.get? b=some o:=λb o U=>k b o (N b o U);refine⟨.ref F.objs.size,H_ H F.objs.size (.lst ((out.toList.map strOf).map V.str)),?_,rfl,q _ _ (I.hok.fresh g) d B⟩;refine I.laid (t':=s.toks) D g ⟨?_,out.toList,e,z,by simpa using P⟩;rw[AB,AB,m.length_eq];lia
theorem Oh{f:A0 (A3×Obj)}{σ:St}{H:Hp}{s:A4}{A:IE}{E:A2->A4->Prop}{Q:A2->A4->Prop}{b:Bool}{x:V}{u t:A2}{l:A3}{its:A0 A2}(I:Inv X f σ H s)(g:RelV x u)(ty:MJ X.K H x t)(i:IsTup s.heap l its.toArray)(e:PySem.W.kitAny X.K t its=some b)(m:(∃y,x = .str y)\/(∃a xs,x = .ref a/\(H a=some (.lst xs)\/H a=some (.tup xs))))(h:∀r,Q (.bool b) { s with toks:=r }) :
  wpAny (model X.prog X.w) A (call (.builtin "isinstance") [u,.ref l]) Q E s:=by
 obtain⟨⟨G,J,v,B⟩,j,C,n,D⟩:=i;cases C;cases D;rcases m with⟨y,rfl⟩ | ⟨a,xs,rfl,ea | ea⟩
 .cases ty;obtain⟨t,q⟩:=(show ∃t,u=Value.str y t from g);cases q;exact VR PySem.W.kitx_str I.kIn VC j e (λz=>nomatch z) h
 .cases(show u=Value.ref a from g);have d:t = .type "list":=by cases ty with
   | lst=>rfl
   | frz=>rfl
   | tup c=>rw[ea]at c;cases c
   | dK c=>rw[ea]at c;cases c
   | dT c=>rw[ea]at c;cases c
   | ins c=>rw[ea]at c;cases c
  subst d;obtain⟨_,_,n,_,k⟩:=(show IU X.prog X.w H s.heap a (.lst xs)from I.hok a _ ea);exact VR PySem.W.kitx_list I.kIn ⟨_,k,rfl⟩ j e (λz=>nomatch z) h
 .cases(show u=Value.ref a from g);have d:t = .type "tuple":=by cases ty with
   | tup=>rfl
   | frz c=>rw[ea]at c;cases c
   | lst c=>rw[ea]at c;cases c
   | dK c=>rw[ea]at c;cases c
   | dT c=>rw[ea]at c;cases c
   | ins c=>rw[ea]at c;cases c
  subst d;obtain⟨_,_,_,p⟩:=(show IU X.prog X.w H s.heap a (.tup xs)from I.hok a _ ea);obtain⟨o,k,F,_⟩:=p;exact VR PySem.W.kitx_tuple I.kIn ⟨o,k,F⟩ j e (λz=>nomatch z) h
def Za(K:VA):A0 V->Hp->VK->Prop:=λc H Q=>∃(x:V) (p:A3) (d:A0 String) (t:A2) (b:Bool),c = [x,.ref p]/\H p=some (.tup (d.map V.ty))/\MJ K H x t/\((∃y,x = .str y)\/(∃a c,x = .ref a/\(H a=some (.lst c)\/H a=some (.tup c))))/\PySem.W.kitAny K t (d.map Value.type)=some b/\Q (.bl b) H
theorem Jn:∀{ns:A0 String} {us:A0 A2},IJ (ns.map V.ty) us->us=ns.map Value.type
 | [],_,.nil=>rfl
 | _::_,_,.cons r t=>by rw[BM,Jn t];cases r;rfl
theorem On:J8 X (.builtin "isinstance") (Za X.K):=by
 intro c s σ H l m Q I r h;obtain⟨x,p,n,t,b,rfl,e,f,g,i,q⟩:=h;obtain⟨u,v,rfl,j,a⟩:=r.two;cases a;obtain⟨k,a,d,o⟩:=I.tuple (IV.of e);rw[Jn a]at d;exact Oh I j f d i g λw=>⟨.bl b,H,I.tok _,rfl,q⟩
variable(K:VA)
theorem Vy(b:X.K=K:=by rfl):J8 X (.builtin "sorted") (λxs H Q=>∃(p:A3) (ss:A0 Str),xs = [.ref p]/\QQ K H p (ss.map V.str)/\∀(l:A3) (a:A0 Str),H l=none->a.Perm ss->a.Pairwise NR->Q (.ref l) (H_ H l (.lst (a.map V.str)))):=by subst b;exact Ir
theorem Wf(a:X.K=K:=by rfl):J8 X (.builtin "isinstance") (Za K):=by subst a;exact On
section
variable{prog:HX}{w:HZ}{A:IE}{E:A2->A4->Prop}{s:A4}{it l:A3}{i:Nat}{items:HW A2}{x:A2}{Q:A2->A4->Prop}
theorem Zm{α:Type}{Q:α->A4->Prop}(a:A.handled=none)(h:∀h' e,(∀b o,s.heap.get? b=some o->h'.get? b=some o)->(∃o,h'.get? e=some o/\o.cls = .type "StopIteration")->E (.ref e) { s with heap:=h' }):wpAny (model prog w) A (Builtin.SmallTypes.stopIteration (α:=α)) Q E s:=by
 refine AA (AA (GQ (AA (AD (BV ?_ (sizeOk_excFields ..)))) (by show 0<=sizeLine;decide)));refine AA (wpAny_handled ?_);rw[a];exact wpAny_throw (h _ _ (λb o e=>AC _ (AC _ e)) ⟨_,AW _ rfl,rfl⟩)
theorem T5(a:s.heap.IsTupleIter it l i)(g:s.heap.IsTuple l items)(h:items[i]?=some x)
  (j:∀h',h'.IsTupleIter it l (i+1)->Heap.SameBut it s.heap h'->Q x { s with heap:=h' }):wpAny (model prog w) A (Builtin.SmallTypes.nextOf (.ref it)) Q E s:=by
 obtain⟨o,d,k,b⟩:=id a;obtain⟨m,e,_,n,f⟩:=g;refine AA (CG a.typeIs F.slot_tuple_iterator_next (CF F.slot_tuple_iterator_next a.typeIs F.entry_tuple_iterator_next ?_ (F.args_tuple_iterator_next_1 _)));refine AA (AD (AA (CC d b rfl ?_)));refine DJ (c:=(Value.ref l == Value.none)=true) rfl ?_;refine AA (CC d b rfl (AA (DZ e f ?_)));dsimp only;rw[show items[(i:Int).toNat]?=some x from h];refine AA (ED d b (FA 1) (AD ⟨x,rfl,AD (j _ ⟨_,BZ _ d (Obj.isFreed_of_fields (Obj.data_mapFields b _)),(Obj.cls_mapFields o _).trans k,(Obj.data_mapFields b _).trans ?_⟩ (DN _ _ _))⟩));rfl
theorem i7(j:A.handled=none)(a:s.heap.IsTupleIter it l i)(m:s.heap.IsTuple l items)(n:items[i]?=none)
  (p:∀h' e,Heap.ExtBut it s.heap h'->(∃o,h'.get? e=some o/\o.cls = .type "StopIteration")->E (.ref e) { s with heap:=h' }):wpAny (model prog w) A (Builtin.SmallTypes.nextOf (.ref it)) Q E s:=by
 obtain⟨o,d,r,f⟩:=id a;obtain⟨t,g,_,u,h⟩:=m;refine AA (CG a.typeIs F.slot_tuple_iterator_next (CF F.slot_tuple_iterator_next a.typeIs F.entry_tuple_iterator_next ?_ (F.args_tuple_iterator_next_1 _)));refine AA (AD (AA (CC d f rfl ?_)));refine DJ (c:=(Value.ref l == Value.none)=true) rfl ?_;refine AA (CC d f rfl (AA (DZ g h ?_)));dsimp only;rw[show items[(i:Int).toNat]?=none from n];refine AA (DG (AA (ED d f (FQ 1) ?_)));exact Zm j λh' e k d=>p h' e (λb o q e=>k b o (((DN _ _ _).2 b q).trans e)) d
theorem Qu{M:Model}{α β:Type}{a b:α}{i u v:β}{f:α->β->Sem (ForInStep β)}{Q:β->A4->Prop}(h:wpAny M A (f a i) (λr c=>r = .yield u/\wpAny M A (f b u) (λr c=>r = .yield v/\Q v c) E c) E s):wpAny M A (forIn [a,b] i f) Q E s:=by
 rw[List.forIn_cons];refine AA (B_ h (λr c z=>?_) λe c z=>z);obtain⟨rfl,z⟩:=z;show wpAny M A (forIn [b] u f) Q E c;rw[List.forIn_cons];refine AA (B_ z (λr c z=>?_) λe c z=>z);obtain⟨rfl,z⟩:=z;exact AD z
theorem Cy{z TI TO d f m l2:A3}{r t:Nat}{xs K:HW A2}{x y a b:A2}(D:ZipApart z TI TO d f m l2)(hz:IsZip s.heap z TI TO .none)(B:IsPair s.heap TI (.ref d) (.ref f))(C:IsPair s.heap TO a b)
  (h1:s.heap.IsTupleIter d m r) (h2:s.heap.IsTupleIter f l2 t) (T:s.heap.IsTuple m xs) (U:s.heap.IsTuple l2 K) (V:xs[r]?=some x) (W:K[t]?=some y)
  (X:∀h',IsZip h' z TI TO (rawInt s.heap.objs.size)->IsPair h' TO x y->h'.IsTupleIter d m (r+1)->h'.IsTupleIter f l2 (t+1)->IsPair h' s.heap.objs.size x y->h'.objs.size=s.heap.objs.size+1->(∀c o,c≠z->c≠TO->c≠d->c≠f->s.heap.get? c=some o->h'.get? c=some o)->Q (.ref s.heap.objs.size) { s with heap:=h' }) :
  wpAny (model prog w) A (Builtin.«zip.__next__» ⟨[.ref z],[]⟩) (λfin Y=>∃v,fin = .done (.ret v)/\Q v Y) E s:=by
 obtain⟨F,gg,dd,tt,oo⟩:=s;refine AA (AD (AA (CC hz rfl rfl (AA (CC hz rfl rfl (AA (DZ B rfl ?_)))))));refine DJ rfl (AA (AA (CC hz rfl rfl (AD (FD rfl ?_)))));refine AA (DG (AA (CC hz rfl rfl (AA (DH hz (FQ 4) λh3 Z g=>?_)))));have a3:=h1.extBut g.extBut D.i1z;have b3:=h2.extBut g.extBut D.i2z;have c3:=T.extBut g.extBut D.l1z;have d3:=U.extBut g.extBut D.l2z;have e3:=(g.2 TO D.TOz).trans C;refine AA ?_;rw[show(#[Value.ref d,Value.ref f].toList.zipIdx) = [(Value.ref d,0),(Value.ref f,1)]from rfl];refine Qu (u:=(none,())) (v:=(none,())) ?_;refine AA (wpAny_onRaise (DJ rfl (AA (T5 a3 c3 V λh4 a4 h=>AD ?_))));have L:=(h.2 TO D.TOi1).trans e3;refine AA (DZ L rfl (AA (wpAny_updateSeq_pair L λh5 e5 i=>AA (wpAny_letGo (AD ⟨rfl,?_⟩)))));have b5:=(b3.extBut h.extBut D.i12.symm).extBut i.extBut D.TOi2.symm;have d5:=(d3.extBut h.extBut D.l2i1).extBut i.extBut D.l2TO;refine AA (wpAny_onRaise (DJ rfl (AA (T5 b5 d5 W λh6 b6 j=>AD ?_))));have M:=(j.2 TO D.TOi2).trans e5;refine AA (DZ M rfl (AA (wpAny_updateSeq_pair M λn N k=>AA (wpAny_letGo (AD ⟨rfl,?_⟩)))));have z7:=(k.2 z D.TOz.symm).trans ((j.2 z D.i2z.symm).trans ((i.2 z D.TOz.symm).trans ((h.2 z D.i1z.symm).trans Z)));have G:n.objs.size=F.objs.size:=k.1.trans (j.1.trans (i.1.trans (h.1.trans g.1)));have O:∀{c:A3} {o:Obj},F.get? c=some o->c≠n.objs.size:=λe=>by rw[G];exact BA (AG e)
 refine AA (DZ N rfl (AA (GQ (AA (AA (DH (AC _ z7) (FQ 4) λh8 z8 H=>DH z8 (Nat.succ_lt_succ (FQ 3)) λp P I=>AD ⟨_,rfl,?_⟩))) (by show 2<=sizeLine;decide))));have q:∀{c:A3} {o:Obj},c≠z->n.get? c=some o->p.get? c=some o:=λl e=>(I.2 _ l).trans ((H.2 _ l).trans (AC _ e));have J:p.objs.size=F.objs.size+1:=I.1.trans (H.1.trans ((CU ..).trans (congrArg (· + 1) G)));have R:p.get? n.objs.size=some ⟨.type "tuple",none,.seq #[x,y],#[]⟩:=(I.2 _ (O hz).symm).trans ((H.2 _ (O hz).symm).trans (AW _ rfl));rw[G]at P R⊢;refine X p P (q D.TOz N) (a4.at λo e=>?_) (b6.at λo e=>?_) R J λc o l S n1 n2 e=>q l ?_
 .exact q D.i1z ((k.2 _ D.TOi1.symm).trans ((j.2 _ D.i12).trans ((i.2 _ D.TOi1.symm).trans e)))
 .exact q D.i2z ((k.2 _ D.TOi2.symm).trans e)
 .exact(k.2 _ S).trans ((j.2 _ n2).trans ((i.2 _ S).trans ((h.2 _ n1).trans ((g.2 _ l).trans e))))
theorem Fq{z TI TO a b f l2:A3}{j:Nat}{xs:HW A2}{Q:PySem.Fin->A4->Prop}(p:A.handled=none)(D:ZipApart z TI TO a b f l2)(hz:IsZip s.heap z TI TO .none)(g:IsPair s.heap TI (.ref a) (.ref b))
  (h1:s.heap.IsTupleIter a f j) (r:s.heap.IsTuple f xs) (t:xs[j]?=none)
  (u:∀h' e,(∀c o,c≠z->c≠TO->c≠a->c≠b->s.heap.get? c=some o->h'.get? c=some o)->(∃o,h'.get? e=some o/\o.cls = .type "StopIteration")->E (.ref e) { s with heap:=h' }) :
  wpAny (model prog w) A (Builtin.«zip.__next__» ⟨[.ref z],[]⟩) Q E s:=by
 obtain⟨B,C,F,tt,G⟩:=s;refine AA (AD (AA (CC hz rfl rfl (AA (CC hz rfl rfl (AA (DZ g rfl ?_)))))));refine DJ rfl (AA (AA (CC hz rfl rfl (AD (FD rfl ?_)))));refine AA (DG (AA (CC hz rfl rfl (AA (DH hz (FQ 4) λH k h=>?_)))));refine AA ?_;rw[show(#[Value.ref a,Value.ref b].toList.zipIdx) = [(Value.ref a,0),(Value.ref b,1)]from rfl,List.forIn_cons];refine AA (AA (wpAny_onRaise (DJ rfl (AA (i7 p (h1.extBut h.extBut D.i1z) (r.extBut h.extBut D.l1z) t λI e i d=>?_)))));refine DH (i z _ D.i1z.symm k) (FQ 4) λv J l=>u v e (λc o m _ x _ e=>(l.2 _ m).trans (i c o x ((h.2 _ m).trans e))) ?_;obtain⟨o,d,n⟩:=d;have y:e≠z:=λq=>by
  subst q;rw[i e _ D.i1z.symm k]at d;cases d;exact absurd (show Value.type "zip" = .type "StopIteration" from n) (by decide)
 exact⟨o,(l.2 _ y).trans d,n⟩
theorem Mj{z TI TO:A3}{a:A2}(hz:IsZip s.heap z TI TO a):s.TypeIs (.ref z) "zip":=⟨_,hz,rfl⟩
theorem zBh(O:A.handled=none)(z TI TO f g j l2:A3)(D:ZipApart z TI TO f g j l2)(xs v:HW A2)(P:xs.size<=v.size) :
  WalksT prog w A z [z,TI,TO,f,g,j,l2] [z,TO,f,g] xs.size (λi C=>∃x y,xs[i]?=some x/\v[i]?=some y/\C = #[x,y])
   (λi h=>IsZip h z TI TO .none/\IsPair h TI (.ref f) (.ref g)/\(∃a b,IsPair h TO a b)/\h.IsTupleIter f j i/\h.IsTupleIter g l2 i/\h.IsTuple j xs/\h.IsTuple l2 v)
   (λi T h=>IsZip h z TI TO (rawInt T)/\IsPair h TI (.ref f) (.ref g)/\(∃a b,IsPair h TO a b)/\h.IsTupleIter f j (i+1)/\h.IsTupleIter g l2 (i+1)/\h.IsTuple j xs/\h.IsTuple l2 v/\T≠z/\T≠TO/\T≠f/\T≠g) where
 sub:=by simp
 frame:=λi h B ⟨c,l,⟨a,b,p⟩,m,r,n,t⟩ k=>⟨k z (by simp) _ c,k TI (by simp) _ l,⟨a,b,k TO (by simp) _ p⟩,m.at (k f (by simp)),r.at (k g (by simp)),n.at (k j (by simp)),t.at (k l2 (by simp))⟩
 item:=λi s Q E K ⟨c,l,⟨a,b,p⟩,m,r,n,t⟩ G=>by
  have H:xs[i]?=some xs[i]:=EI K;have L:v[i]?=some (v[i]'(BI K P)):=EI _;refine AA (GH (CG (Mj c) F.slot_zip_next (CF F.slot_zip_next (Mj c) F.entry_zip_next (Cy D c l p m r n t H L λB I R S U V sz k=>AD ?_) (F.args_zip_next_1 _))));refine G _ _ B s.toks ⟨_,_,H,L,rfl⟩ (VD _) ⟨_,V,rfl,_,rfl⟩ ⟨I,k TI _ D.TIz D.TITO D.TIi1 D.TIi2 l,⟨_,_,R⟩,S,U,n.at λo e=>k j o D.l1z D.l1TO D.l1i1 D.l1i2 e,t.at λo e=>k l2 o D.l2z D.l2TO D.l2i1 D.l2i2 e,?_,?_,?_,?_⟩ λb o d e=>?_
  .exact(BA (AG c)).symm
  .exact(BA (AG p)).symm
  .obtain⟨o,e,_⟩:=m;exact(BA (AG e)).symm
  .obtain⟨o,e,_⟩:=r;exact(BA (AG e)).symm
  .simp only[AU,A_,or_false,not_or]at d;exact k b o d.1 d.2.1 d.2.2.1 d.2.2.2 e
 go:=λM k W i T s Q E ⟨c,l,⟨a,b,p⟩,m,r,n,t,_⟩ G=>wpAny_letOwnedTupleGo_zip c λB I u=>G B ⟨I,(u.2 _ D.TIz).trans l,⟨a,b,(u.2 _ D.TOz).trans p⟩,m.extBut u.extBut D.i1z,r.extBut u.extBut D.i2z,n.extBut u.extBut D.l1z,t.extBut u.extBut D.l2z⟩ λb o d e=>(u.2 b λq=>d (by rw[q];exact AX ..)).trans e
 apart:=λi T h ⟨_,_,_,_,_,_,_,X,Y,Z,n4⟩ N=>by
  simp only[AU,A_,or_false]at N;rcases N with e | e | e | e
  .exact X e
  .exact Y e
  .exact Z e
  .exact n4 e
 done:=λs Q E ⟨c,l,⟨a,b,p⟩,m,r,n,t⟩ G=>by
  have H:xs[xs.size]?=none:=EE (VD _);refine AA (GH (CG (Mj c) F.slot_zip_next (CF F.slot_zip_next (Mj c) F.entry_zip_next (Fq O D c l m n H λB e k J=>?_) (F.args_zip_next_1 _))));obtain⟨o,J,hc⟩:=J;refine AA (FP ⟨o,J,hc⟩ isSubtype_stop (AD (G B s.toks λb o d e=>?_)));simp only[AU,A_,or_false,not_or]at d;exact k b o d.1 d.2.1 d.2.2.1 d.2.2.2 e
 self:=λi s Q E ⟨c,_⟩ q=>HS c q
end
section
variable{prog:HX}{w:HZ}{A:IE}{E:A2->A4->Prop}{s:A4}
theorem Aq{M:Model}{T:String}{vs:A0 A2}{Q:A2->A4->Prop}(h:Q (.ref s.heap.objs.size) { s with heap:=s.heap.push { cls:=.type T,data:=.fields vs.toArray } })(a:sizeOk (.fields vs.toArray)):wpAny M A (Builtin.SmallTypes.newRecord (.type T) vs) Q E s:=BV h a
theorem Sa{d l2:A3}{xs n:HW A2}{Q:A2->A4->Prop}(y:s.heap.IsTuple d xs)(z:s.heap.IsTuple l2 n)
  (B:∀h',IsZip h' (s.heap.objs.size+4) (s.heap.objs.size+2) (s.heap.objs.size+3) .none->IsPair h' (s.heap.objs.size+2) (.ref s.heap.objs.size) (.ref (s.heap.objs.size+1))->IsPair h' (s.heap.objs.size+3) .none .none ->
   h'.IsTupleIter s.heap.objs.size d 0->h'.IsTupleIter (s.heap.objs.size+1) l2 0->(∀c o,s.heap.get? c=some o->h'.get? c=some o)->Q (.ref (s.heap.objs.size+4)) { s with heap:=h' }) :
  wpAny (model prog w) A (call (.type "zip") [.ref d,.ref l2]) Q E s:=by
 refine callType_new (S:=λA R j=>j=s/\∀h',IsZip h' (s.heap.objs.size+4) (s.heap.objs.size+2) (s.heap.objs.size+3) .none->IsPair h' (s.heap.objs.size+2) (.ref s.heap.objs.size) (.ref (s.heap.objs.size+1))->IsPair h' (s.heap.objs.size+3) .none .none ->
   h'.IsTupleIter s.heap.objs.size d 0->h'.IsTupleIter (s.heap.objs.size+1) l2 0->(∀c o,s.heap.get? c=some o->h'.get? c=some o)->R (.ok (.ret (.ref (s.heap.objs.size+4)))) { s with heap:=h' }) F.called_zip rfl (F.typeCall_zip_2 _ _) (F.newCall_zip_2 _ _) (λ_=>F.args_object_init_3 _ _ _) F.entry_zip_new (.of_wp λprog w A R j l=>?_) ⟨rfl,λh' p C D G H k=>⟨⟨_,p,rfl⟩,B h' p C D G H k⟩⟩
 obtain⟨rfl,l⟩:=l;obtain⟨a,I,J,tt,K⟩:=j;refine AA (AA (AD (DJ rfl (AA (EG sub_zip (DJ rfl (AD ?_)))))))
 let b:=a.push { cls:=.type "tuple_iterator",data:=.fields #[.ref d,.int 0 0] }
 let f:=b.push { cls:=.type "tuple_iterator",data:=.fields #[.ref l2,.int 0 0] }
 let g:=f.push { cls:=.type "tuple",data:=.seq #[.ref a.objs.size,.ref b.objs.size] }
 let i:=g.push { cls:=.type "tuple",data:=.seq #[.none,.none] }
 have r:b.objs.size=a.objs.size+1:=CU ..;have t:f.objs.size=a.objs.size+2:=(CU ..).trans (congrArg (· + 1) r);have x:g.objs.size=a.objs.size+3:=(CU ..).trans (congrArg (· + 1) t);have L:i.objs.size=a.objs.size+4:=(CU ..).trans (congrArg (· + 1) x);have m:b.IsTuple l2 n:=z.at λo e=>AC _ e;have M:b.get? a.objs.size=some { cls:=.type "tuple_iterator",data:=.fields #[.ref d,.int 0 0] }:=AW _ rfl;have N:f.get? b.objs.size=some { cls:=.type "tuple_iterator",data:=.fields #[.ref l2,.int 0 0] }:=AW _ rfl;have O:g.get? f.objs.size=some { cls:=.type "tuple",data:=.seq #[.ref a.objs.size,.ref b.objs.size] }:=AW _ rfl;have P:i.get? g.objs.size=some { cls:=.type "tuple",data:=.seq #[.none,.none] }:=AW _ rfl;have u:∀{h:IC} {o:Obj} {c:A3} {q:Obj},h.get? c=some q->(h.push o).get? c=some q:=λe=>AC _ e;refine DJ rfl (AA (AA (Qu (u:=#[.ref a.objs.size]) (v:=#[.ref a.objs.size,.ref b.objs.size]) (AA (BP (FX y (AD ⟨rfl,AA (BP (FX m (AD ⟨rfl,AD ?_⟩)))⟩)))))));refine AA (GQ (AA (GQ (AA (Aq (AD ⟨_,rfl,?_⟩) ?_)) (by show 2<=sizeLine;decide))) (by show 2<=sizeLine;decide))
 .have T:=AW i (o:={ cls:=.type "zip",data:=.fields #[.none,.bool false,.bool false,.ref f.objs.size,.ref g.objs.size] }) rfl;have q:=l (i.push { cls:=.type "zip",data:=.fields #[.none,.bool false,.bool false,.ref f.objs.size,.ref g.objs.size] });rw[show(Shared.mk a I J tt K).heap.objs.size=a.objs.size from rfl,<-r,<-t,<-x,<-L]at q;exact q T (u (u O)) (u P) ⟨_,u (u (u (u M))),rfl,rfl⟩ ⟨_,u (u (u N)),rfl,rfl⟩ λc o e=>u (u (u (u (u e))))
 .show 5<=sizeLine+2;decide
end
def S_(e:Hp->A3->A0 V->Prop)(a b:A3):It :=
  ⟨λi H=>∃c d x y,e H a c/\e H b d/\c.length<=d.length/\c[i]?=some x/\d[i]?=some y,λi H v f=>∃T x y,v = .ref T/\H T=none/\f=H_ H T (.tup [x,y])/\(∀c,e H a c->c[i]?=some x)/\∀d,e H b d->d[i]?=some y,
   λi H=>∃c d,e H a c/\e H b d/\c.length<=d.length/\c.length=i⟩
def Rw(isIt:IC->A3->A3->Nat->Prop)(z TI TO c d a b:A3)(i:Nat)(h:IC):Prop:=IsZip h z TI TO .none/\IsPair h TI (.ref c) (.ref d)/\(∃u v,IsPair h TO u v)/\isIt h c a i/\isIt h d b i
section
variable{P:HX}{w:HZ}{K:VA}{elts:A0 IG}{kk:Nat}{tp:Pos}{isIt:IC->A3->A3->Nat->Prop}{isq:IC->A3->HW A2->Prop}{sq:Hp->A3->A0 V->Prop}
theorem Jc(oI:∀h c l i,isIt h c l i->∃o,h.get? c=some o/\∀v,o.data≠ .cell v)(kI:∀h h' c l i,isIt h c l i->(∀o,h.get? c=some o->h'.get? c=some o)->isIt h' c l i)
  (gI:∀(X:Cx) f σ H s c xs,X.K=K->Inv X f σ H s->sq H c xs->∃its,IJ xs its/\isq s.heap c its.toArray) (uI:∀(X:Cx) f σ H s c xs D,X.K=K->Inv X f σ H s->sq H c xs->sq H c D->xs=D)
  (z TI TO g j a b:A3) (WI:∀(A:IE),A.handled=none->∀xs D:HW A2,xs.size<=D.size->WalksT P w A z [z,TI,TO,g,j,a,b] [z,TO,g,j] xs.size (λi G=>∃x y,xs[i]?=some x/\D[i]?=some y/\G = #[x,y])
   (λi h=>IsZip h z TI TO .none/\IsPair h TI (.ref g) (.ref j)/\(∃a b,IsPair h TO a b)/\isIt h g a i/\isIt h j b i/\isq h a xs/\isq h b D)
   (λi T h=>IsZip h z TI TO (rawInt T)/\IsPair h TI (.ref g) (.ref j)/\(∃a b,IsPair h TO a b)/\isIt h g a (i+1)/\isIt h j b (i+1)/\isq h a xs/\isq h b D/\T≠z/\T≠TO/\T≠g/\T≠j)) :
  MQ P w K (.Tuple elts kk tp) (S_ sq a b) [z,TI,TO,g,j] z (Rw isIt z TI TO g j a b) where
 mem:=AX ..
 obj:=λi h st c t=>by
  obtain⟨h1,R,⟨u,v,U⟩,V,Y⟩:=st;simp only[AU,A_,or_false]at t;rcases t with rfl | rfl | rfl | rfl | rfl
  .exact⟨_,h1,λv z=>by cases z⟩
  .exact⟨_,R,λv z=>by cases z⟩
  .exact⟨_,U,λv z=>by cases z⟩
  .exact oI _ _ _ _ V
  .exact oI _ _ _ _ Y
 keep:=λi h h' st k=>by
  obtain⟨h1,R,⟨u,v,U⟩,V,Y⟩:=st;exact⟨k z (by simp) _ h1,k TI (by simp) _ R,⟨u,v,k TO (by simp) _ U⟩,kI _ _ _ _ _ V (k g (by simp)),kI _ _ _ _ _ Y (k j (by simp))⟩
 item:=by
  intro X hP hw L t i f s σ H E I S st hg;subst hP hw;obtain⟨xs,D,x,y,hq,hr,M,hx,hy⟩:=hg;obtain⟨its,rv,p⟩:=gI _ _ _ _ _ _ _ L I hq;obtain⟨N,F,p'⟩:=gI _ _ _ _ _ _ _ L I hr;obtain⟨u,hu,ru⟩:=rv.get hx;obtain⟨v,hv,rv'⟩:=F.get hy;have hl:=rv.length;have O:=F.length;have W:=WI X.A (I.ok.hd t) its.toArray N.toArray (by rw[AR,AR,<-hl,<-O];exact M);have hi:i<its.toArray.size:=by rw[AR];exact(AK.mp hu).1
  obtain⟨s1,s2,s3,Z,s5⟩:=id st;refine W.item i s _ _ hi ⟨s1,s2,s3,Z,s5,p,p'⟩ λT G h' tk hvs hT ht hm k=>?_;obtain⟨x',y',hx',hy',rfl⟩:=hvs;have ex:x'=u:=BU (hx'.symm.trans ((DY ..).trans hu));have ey:y'=v:=BU (hy'.symm.trans ((DY ..).trans hv));subst ex ey;refine⟨.ref T,rfl,W.go elts kk tp i T _ _ _ hm λR C k2=>?_⟩;have kk2:∀b o,b∉[z,TI,TO,g,j]->s.heap.get? b=some o->R.get? b=some o:=λc o d ec=>by
   have n4:c∉[z,TO,g,j]:=λm=>d (by
    simp only[AU,A_,or_false]at m⊢;exact m.imp_right .inr)
   exact k2 c o n4 (k c o n4 ec)
  have hT2:R.IsTuple T #[x',y']:=ht.at λo e=>k2 T o (W.apart i T h' hm) e;have J:∀c∈[z,TI,TO,g,j],∃B,s.heap.get? c=some B:=λc d=>by
   obtain⟨u3,v3,U⟩:=s3;obtain⟨o4,V,_⟩:=oI _ _ _ _ Z;obtain⟨o5,Y,_⟩:=oI _ _ _ _ s5;simp only[AU,A_,or_false]at d;rcases d with rfl | rfl | rfl | rfl | rfl
   .exact⟨_,s1⟩
   .exact⟨_,s2⟩
   .exact⟨_,U⟩
   .exact⟨_,V⟩
   .exact⟨_,Y⟩
  refine⟨.ref T,H_ H T (.tup [x,y]),I.turnLaid (fp:=[z,TI,TO,g,j]) kk2 S J hT ⟨?_,[x',y'],.cons ru (.cons rv' .nil),hT2⟩,rfl,⟨T,x,y,rfl,I.hok.fresh hT,rfl,λzs hz=>by rw[uI _ _ _ _ _ _ _ _ L I hz hq];exact hx,λzs hz=>by rw[uI _ _ _ _ _ _ _ _ L I hz hr];exact hy⟩,⟨C.1,C.2.1,C.2.2.1,C.2.2.2.1,C.2.2.2.2.1⟩,λc d=>?_⟩
  .show 2<=sizeLine;decide
  .obtain⟨B,eb⟩:=J c d;rw[B7 (BA (BI (AG eb) hT))];exact(S c d).1
 done:=by
  intro X hP hw L t i f s σ H E I S st hg;subst hP hw;obtain⟨xs,D,hq,hr,M,hx⟩:=hg;obtain⟨its,rv,p⟩:=gI _ _ _ _ _ _ _ L I hq;obtain⟨N,F,p'⟩:=gI _ _ _ _ _ _ _ L I hr;have hl:=rv.length;have O:=F.length;have W:=WI X.A (I.ok.hd t) its.toArray N.toArray (by rw[AR,AR,<-hl,<-O];exact M);have hi:i=its.toArray.size:=by rw[AR,<-hl,hx]
  obtain⟨s1,s2,s3,Z,s5⟩:=id st;rw[hi]at Z s5;refine W.done s _ _ ⟨s1,s2,s3,Z,s5,p,p'⟩ λh' tk k=>⟨rfl,?_⟩;have nf:∀b u,H b=some u->b∉[z,TI,TO,g,j]:=λb u e hb=>by rw[(S b hb).1]at e;cases e
  have k':∀c o,c∉[z,TI,TO,g,j]->s.heap.get? c=some o->h'.get? c=some o:=λc o d ec=>k c o (λm=>d (by
    simp only[AU,A_,or_false]at m⊢;exact m.imp_right .inr)) ec
  refine I.step (h':=h') (H':=H) (t':=tk) (g':=s.gens) (d':=s.drawn) (ch:=[z,TI,TO,g,j]) (λb hb=>let⟨_,f1,_,f3,f4,f5⟩:=S b hb;⟨f3,f1,f4,f5⟩) (λb B _ _ t e _=>k' b B t e) (λb B _ _ t e _=>⟨B.slots,k' b B t e⟩) (λ_ _ _ _ n=>n)
   (λb B t e=>⟨B,k' b B t e⟩) (λ_ _ e=>e) (λ_ _ _ e=>e) (λb ps e=>⟨#[],by rw[e];simp⟩) (λm hm=>?_) (λb u eb=>?_) I.bare
  .obtain⟨B,es,ep,ho,r⟩:=hm;exact⟨B,es,ep,k' _ B (λhb=>(S _ hb).2.1 rfl) ho,r⟩
  .refine(I.hok b u eb).stay (λc v t q=>k' c v ?_ q) (λ_ q=>q) λ_ _ q=>q;rcases t with z | z
   .rw[z];exact nf b u eb
   .exact nf c _ z
 self:=λA i s Q E st h=>HS st.1 h
theorem Tz(z TI TO f g a b:A3)(D:ZipApart z TI TO f g a b):MQ P w K (.Tuple elts kk tp) (S_ (II K) a b) [z,TI,TO,f,g] z (Rw Heap.IsListIter z TI TO f g a b) :=
 Jc (isq:=Heap.IsList) (λh c l i ⟨o,e,_,d⟩=>⟨o,e,λv z=>by rw[d]at z;cases z⟩) (λh C c l i z k=>z.at k) (λX j σ H s c m n I q=>by subst n;obtain⟨r,u,p,_⟩:=I.list q;exact⟨r,u,p.isList⟩) (λX j σ H s c m t n I q x=>by subst n;exact I.list_inj q x)
  z TI TO f g a b λA y m t B=>by
   have W:=WalksT.zip2 (prog:=P) (w:=w) y z TI TO f g a b D m t
   rwa [F_ B]at W
theorem Qy(z TI TO f g a b:A3)(D:ZipApart z TI TO f g a b):MQ P w K (.Tuple elts kk tp) (S_ (IV K) a b) [z,TI,TO,f,g] z (Rw Heap.IsTupleIter z TI TO f g a b) :=
 Jc (isq:=Heap.IsTuple) (λh c l i ⟨o,e,_,d⟩=>⟨o,e,λv z=>by rw[d]at z;cases z⟩) (λh C c l i z k=>z.at k) (λX j σ H s c m n I q=>by subst n;obtain⟨r,u,p,_⟩:=I.tuple q;exact⟨r,u,p⟩) (λX j σ H s c m t n I q x=>by subst n;exact I.tuple_inj q x)
  z TI TO f g a b λA y m t B=>zBh y z TI TO f g a b D m t B
end
section
variable{X:Cx}{elts:A0 IG}{kk:Nat}{tp:Pos}
def zHt(K:VA)(R:It->Hp->Prop)(a b:A3)(xs c:A0 V)(H:Hp):Prop:=II K H a xs/\II K H b c/\R (S_ (II K) a b) H\/IV K H a xs/\IV K H b c/\R (S_ (IV K) a b) H
def zDr(K:VA)(c:TA):TI:=λσ H R=>c σ H λd e=>∃a b f g,d = [.ref a,.ref b]/\zHt K R a b f g e
theorem zAn:bootBuiltins "zip" = some (.type "zip"):=by decide +kernel
theorem zAq{a b:IG}{M:TA}{p i:Pos}(O:Gl X "zip")(P:X.mg "zip" = none)(Q:PA X [a,b] M)(S:starEach [a,b] X.env =(false,eval a X.env)::starEach [b] X.env:=by rfl)(w:(backTo i (starEach [b] X.env)).any (·.1)=false:=by rfl):PI X (.Tuple elts kk tp) (.Call (.Name "zip" p) [a,b] [] i) (zDr X.K M):=by
 intro f s σ H R I h;refine Call_ (An I O P zAn (VP (JB (Q i f s σ H _ I h) λus d ⟨vs,x,g,T,U⟩=>?_) S w));obtain⟨l,m,xs,ys,e,q⟩:=U;subst e;obtain⟨u,v,rfl,V,W⟩:=T.two;cases V;cases W;have j:∀c∈[d.heap.objs.size+4,d.heap.objs.size+2,d.heap.objs.size+3,d.heap.objs.size,d.heap.objs.size+1],Dz X f x c:=λc N=>by
  have n:d.heap.objs.size<=c:=by
   simp only[AU,A_,or_false]at N;rcases N with rfl | rfl | rfl | rfl | rfl
   .exact EK ..
   .exact EK ..
   .exact EK ..
   .exact VD _
   .exact EK ..
  exact g.fpOk n (g.hok.fresh n)
 rcases q with⟨y,z,q⟩ | ⟨y,z,q⟩
 .obtain⟨A,Y,o,Z⟩:=g.list y;obtain⟨B,ry,r,C⟩:=g.list z;have D:l<d.heap.objs.size:=by obtain⟨_,e,_⟩:=o.isList;exact AG e
  have E:m<d.heap.objs.size:=by obtain⟨_,e,_⟩:=r.isList;exact AG e
  refine call_zip_2 o.isList r.isList λh' t F G J L hsz k=>HS t ?_;exact⟨d.heap.objs.size+4,_,_,_,x,rfl,g.kept (t':=d.toks) k,Tz _ _ _ _ _ l m (zipApart_new D E),⟨t,F,⟨_,_,G⟩,J,L⟩,j,q⟩
 .obtain⟨A,Y,o,Z⟩:=g.tuple y;obtain⟨B,ry,r,C⟩:=g.tuple z;have D:l<d.heap.objs.size:=by obtain⟨_,e,_⟩:=id o;exact AG e
  have E:m<d.heap.objs.size:=by obtain⟨_,e,_⟩:=id r;exact AG e
  refine Sa o r λh' t F G J L k=>HS t ?_;exact⟨d.heap.objs.size+4,_,_,_,x,rfl,g.kept (t':=d.toks) k,Qy _ _ _ _ _ l m (zipApart_new D E),⟨t,F,⟨_,_,G⟩,J,L⟩,j,q⟩
variable(K:VA)
theorem zIl{a b:IG}{e:TA}{p c:Pos}(f:X.mg "zip" = none)(g:PA X [a,b] e)(h:Gl X "zip":=by rfl)(i:starEach [a,b] X.env =(false,eval a X.env)::starEach [b] X.env:=by rfl)(d:(backTo c (starEach [b] X.env)).any (·.1)=false:=by rfl)(j:X.K=K:=by rfl):PI X (.Tuple elts kk tp) (.Call (.Name "zip" p) [a,b] [] c) (zDr K e):=by subst j;exact zAq h f g i d
end
section
variable{prog:HX}{w:HZ}{A:IE}{E:A2->A4->Prop}{s:A4}{e it l:A3}{i:Nat}{items:HW A2}{x old:A2}{Q:A2->A4->Prop}
theorem Ch(d:IsEnum s.heap e it (i:Int) old)(h1:s.heap.IsTupleIter it l i)(G:s.heap.IsTuple l items)(H:items[i]?=some x)(f:e≠it)
  (I:∀h',IsEnumOut h' e it ((i:Int)+1) x s.heap.objs.size->h'.IsTupleIter it l (i+1)->h'.get? s.heap.objs.size=some { cls:=.type "tuple",data:=.seq #[.int (i:Int) s.toks,x] }->(∀b o,b≠e->b≠it->s.heap.get? b=some o->h'.get? b=some o)->Q (.ref s.heap.objs.size) { s with heap:=h',toks:=s.toks+1 }) :
  wpAny (model prog w) A (Builtin.«enumerate.__next__» ⟨[.ref e],[]⟩) (λfin J=>∃v,fin = .done (.ret v)/\Q v J) E s:=by
 obtain⟨p,U,V,tt,W⟩:=s;refine AA (AD (AA (CC d rfl rfl (AA (T5 h1 G H λK L j=>?_)))));have k:=(j.2 e f).trans d;refine AA (CC k rfl rfl (AA (CC k rfl rfl (FD rfl ?_))));refine AA (wpAny_mkInt (AA (DH k (CJ rfl) λX M q=>AA (DH M (CJ rfl) λg N r=>?_))));have t:g.objs.size=p.objs.size:=r.1.trans (q.1.trans j.1);have m:∀{c:A3} {o:Obj},p.get? c=some o->c≠g.objs.size:=λe=>by rw[t];exact BA (AG e)
 refine AA (GQ ?_ (by show 2<=sizeLine;decide));have n:=AC { cls:=.type "tuple",data:=.seq [.int (i:Int) tt,x].toArray } N;refine AA (AA (CC n rfl rfl (AD (FD rfl ?_))));refine AA (DG (AA (CC n rfl rfl (AA (DH n (CJ rfl) λY O u=>?_)))));refine AA (AA (DH O (CJ rfl) λZ P y=>DH P (CJ rfl) λh B C=>AA (wpAny_letGo (AD ⟨_,rfl,?_⟩))));have R:∀{c:A3} {o:Obj},c≠e->g.get? c=some o->h.get? c=some o:=λa z=>(C.2 _ a).trans ((y.2 _ a).trans ((u.2 _ a).trans (AC _ z)));have D:∀{c:A3} {o:Obj},c≠e->K.get? c=some o->h.get? c=some o:=λa z=>R a ((r.2 _ a).trans ((q.2 _ a).trans z));have F:h.get? g.objs.size=some { cls:=.type "tuple",data:=.seq #[.int (i:Int) tt,x] }:=(C.2 _ (m d).symm).trans ((y.2 _ (m d).symm).trans ((u.2 _ (m d).symm).trans (AW _ rfl)));rw[t]at B F⊢;exact I h B (L.at λo z=>D f.symm z) F λb o S T z=>D S ((j.2 _ T).trans z)
theorem De{Q:PySem.Fin->A4->Prop}(a:A.handled=none)(b:IsEnum s.heap e it (i:Int) old)(h1:s.heap.IsTupleIter it l i)(c:s.heap.IsTuple l items)(d:items[i]?=none)
  (f:∀h' z,Heap.ExtBut it s.heap h'->(∃o,h'.get? z=some o/\o.cls = .type "StopIteration")->E (.ref z) { s with heap:=h' }) :
  wpAny (model prog w) A (Builtin.«enumerate.__next__» ⟨[.ref e],[]⟩) Q E s :=
 AA (AD (AA (CC b rfl rfl (AA (i7 a h1 c d f)))))
theorem Fu(a:IsEnum s.heap e it (i:Int) old):s.TypeIs (.ref e) "enumerate":=⟨_,a,rfl⟩
theorem Zo(G:A.handled=none)(e it l:A3)(j:e≠it)(m:l≠e)(u:l≠it)(items:HW A2) :
  WalksT prog w A e [e,it,l] [e,it] items.size (λi n=>∃t x,items[i]?=some x/\n = #[.int (i:Int) t,x])
   (λi h=>(∃old,IsEnum h e it (i:Int) old)/\h.IsTupleIter it l i/\h.IsTuple l items)
   (λi T h=>(∃x,IsEnumOut h e it ((i:Int)+1) x T)/\h.IsTupleIter it l (i+1)/\h.IsTuple l items/\T≠e/\T≠it) where
 sub:=by simp
 frame:=λi h g ⟨⟨old,a⟩,c,d⟩ k=>⟨⟨old,k e (by simp) _ a⟩,c.at (k it (by simp)),d.at (k l (by simp))⟩
 item:=λi s Q E H ⟨⟨old,a⟩,c,d⟩ p=>by
  have r:items[i]?=some items[i]:=EI H;refine AA (GH (CG (Fu a) F.slot_enumerate_next (CF F.slot_enumerate_next (Fu a) F.entry_enumerate_next (Ch a c d r j λg v I J k=>AD ?_) (F.args_enumerate_next_1 _))));refine p _ _ g (s.toks+1) ⟨_,_,r,rfl⟩ (VD _) ⟨_,J,rfl,_,rfl⟩ ⟨⟨_,v⟩,I,d.at λo z=>k l o m u z,?_,?_⟩ λb o f z=>?_
  .exact(BA (AG a)).symm
  .obtain⟨o,z,_⟩:=c;exact(BA (AG z)).symm
  .simp only[AU,A_,or_false,not_or]at f;exact k b o f.1 f.2 z
 go:=λC k K i T s Q E ⟨⟨x,a⟩,c,d,_⟩ p=>wpAny_letOwnedTupleGo_enum a λg v y=>p g ⟨⟨_,v⟩,c.extBut y.extBut j.symm,d.extBut y.extBut m⟩ λb o f z=>(y.2 b λq=>f (by rw[q];exact AX ..)).trans z
 apart:=λi T h ⟨_,_,_,L,M⟩ D=>by
  simp only[AU,A_,or_false]at D;rcases D with z | z
  .exact L z
  .exact M z
 done:=λs Q E ⟨⟨old,a⟩,c,d⟩ p=>by
  have r:items[items.size]?=none:=EE (VD _);refine AA (GH (CG (Fu a) F.slot_enumerate_next (CF F.slot_enumerate_next (Fu a) F.entry_enumerate_next (De G a c d r λg z k B=>?_) (F.args_enumerate_next_1 _))));obtain⟨o,B,N⟩:=B;refine AA (FP ⟨o,B,N⟩ isSubtype_stop (AD (p g s.toks λb o f z=>?_)));simp only[AU,A_,or_false,not_or]at f;exact k b o f.2 z
 self:=λi s Q E ⟨⟨_,a⟩,_⟩ q=>HN a q
theorem zCe{M:Model}{α:Type}{c:Prop}[Decidable c]{a b:Sem α}{Q:α->A4->Prop}(h1:wpAny M A a Q E s)(h2:wpAny M A b Q E s):wpAny M A (if c then a else b) Q E s:=by
 by_cases h:c
 .rw[AN h];exact h1
 .rw[AI h];exact h2
theorem Pb(n:s.heap.IsTuple l items)
  (p:∀h',IsEnum h' (s.heap.objs.size+1) s.heap.objs.size 0 .none->h'.IsTupleIter s.heap.objs.size l 0->(∀b o,s.heap.get? b=some o->h'.get? b=some o)->Q (.ref (s.heap.objs.size+1)) { s with heap:=h' }) :
  wpAny (model prog w) A (call (.type "enumerate") [.ref l]) Q E s:=by
 refine callType_new (S:=λA R f=>f=s/\∀h',IsEnum h' (s.heap.objs.size+1) s.heap.objs.size 0 .none->h'.IsTupleIter s.heap.objs.size l 0->(∀b o,s.heap.get? b=some o->h'.get? b=some o)->R (.ok (.ret (.ref (s.heap.objs.size+1)))) { s with heap:=h' })
  F.called_enumerate rfl (F.typeCall_enumerate_1 _) (F.newCall_enumerate_1 _) (λ_=>F.args_object_init_2 _ _) F.entry_enumerate_new (.of_wp λprog w A R f g=>?_) ⟨rfl,λh' h t k=>⟨⟨_,h,rfl⟩,p h' h t k⟩⟩
 obtain⟨rfl,g⟩:=g;obtain⟨c,i,j,tt,m⟩:=f;have u:(c.push { cls:=.type "tuple_iterator",data:=.fields #[.ref l,.int 0 0] }).objs.size=c.objs.size+1:=CU ..;refine AA (AA (AD (DJ rfl (AA (EG sub_enumerate (DJ rfl (AD ?_)))))));refine FD rfl (AA (AA (wpAny_stack_any λst=>AD ?_)));have d:wpAny (model prog w) A.in1 (pyIter (.ref l) >>= λv=>Builtin.SmallTypes.newRecord (.type "enumerate") (Builtin.SmallTypes.ownedTupleFields ++ [v,rawInt 0,.none,.none]) >>= λr=>ret r) (λd f=>∃v,d = .done (.ret v)/\R (.ok (.ret v)) f) (λe f=>R (.error e) f) ⟨c,i,j,tt,m⟩:=by
  refine AA (FX n (AA (Aq (AD ⟨_,rfl,?_⟩) (by show 6<=sizeLine+2;decide))));have x:=AW (c.push { cls:=.type "tuple_iterator",data:=.fields #[.ref l,.int 0 0] }) (o:={ cls:=.type "enumerate",data:=.fields #[.none,.bool false,.ref c.objs.size,rawInt 0,.none,.none] }) rfl;have q:=g ((c.push { cls:=.type "tuple_iterator",data:=.fields #[.ref l,.int 0 0] }).push { cls:=.type "enumerate",data:=.fields #[.none,.bool false,.ref c.objs.size,rawInt 0,.none,.none] });rw[show(Shared.mk c i j tt m).heap.objs.size=c.objs.size from rfl,<-u]at q;exact q x ⟨_,AC _ (AW _ rfl),rfl,rfl⟩ λb o z=>AC _ (AC _ z)
 exact zCe (AA (EG (a:=(Value.ref l,none)) rfl d)) (AA (EG (a:=(Value.ref l,none)) rfl d))
end
def SZ(c:Hp->A3->A0 V->Prop)(a:A3):It :=
 ⟨λi H=>∃b x,c H a b/\b[i]?=some x,λi H v d=>∃T x,v = .ref T/\H T=none/\d=H_ H T (.tup [.int i,x])/\∀b,c H a b->b[i]?=some x,λi H=>∃b,c H a b/\b.length=i⟩
section
variable{P:HX}{w:HZ}{K:VA}{elts:A0 IG}{kk:Nat}{tp:Pos}{isIt:IC->A3->A3->Nat->Prop}{isq:IC->A3->HW A2->Prop}{sq:Hp->A3->A0 V->Prop}
theorem Ee(oI:∀h c l i,isIt h c l i->∃o,h.get? c=some o/\∀v,o.data≠ .cell v)(kI:∀h h' c l i,isIt h c l i->(∀o,h.get? c=some o->h'.get? c=some o)->isIt h' c l i)
  (gI:∀(X:Cx) g σ H s c xs,X.K=K->Inv X g σ H s->sq H c xs->∃its,IJ xs its/\isq s.heap c its.toArray) (uI:∀(X:Cx) g σ H s c xs ys,X.K=K->Inv X g σ H s->sq H c xs->sq H c ys->xs=ys)
  (nE:∀h c e f i d its,IsEnum h e f i d->isq h c its->c≠e) (nI:∀h c l i its e,isIt h e l i->isq h c its->c≠e)
  (a f e:A3) (hei:e≠f) (WI:∀(A:IE),A.handled=none->a≠e->a≠f->∀items:HW A2,WalksT P w A e [e,f,a] [e,f] items.size (λi C=>∃t x,items[i]?=some x/\C = #[.int (i:Int) t,x])
   (λi h=>(∃d,IsEnum h e f (i:Int) d)/\isIt h f a i/\isq h a items)
   (λi T h=>(∃x,IsEnumOut h e f ((i:Int)+1) x T)/\isIt h f a (i+1)/\isq h a items/\T≠e/\T≠f)) :
  MQ P w K (.Tuple elts kk tp) (SZ sq a) [e,f] e (λi h=>(∃d,IsEnum h e f (i:Int) d)/\isIt h f a i) where
 mem:=AX ..
 obj:=λi h st b hb=>by
  obtain⟨⟨d,U⟩,V⟩:=st;rcases AU.mp hb with rfl | hb
  .exact⟨_,U,λv z=>by cases z⟩
  .rw[AE.mp hb];exact oI _ _ _ _ V
 keep:=λi h h' st k=>⟨let⟨d,U⟩:=st.1;⟨d,k e (by simp) _ U⟩,kI _ _ _ _ _ st.2 (k f (by simp))⟩
 item:=by
  intro X Y Z L y i g s σ H E I F st hg;subst Y Z;obtain⟨xs,x,M,N⟩:=hg;obtain⟨its,rv,p⟩:=gI _ _ _ _ _ _ _ L I M;obtain⟨u,hu,ru⟩:=rv.get N;obtain⟨⟨d,O⟩,R⟩:=id st;have W:=WI X.A (I.ok.hd y) (nE _ _ _ _ _ _ _ O p) (nI _ _ _ _ _ _ R p) its.toArray;have hi:i<its.toArray.size:=by rw[AR];exact(AK.mp hu).1
  refine W.item i s _ _ hi ⟨st.1,st.2,p⟩ λT C h' tk hv hT ht S k=>?_;obtain⟨t,x',hx',rfl⟩:=hv;have ex:x'=u:=BU (hx'.symm.trans ((DY ..).trans hu));subst ex;refine⟨.ref T,rfl,W.go elts kk tp i T _ _ _ S λV J k2=>?_⟩;have hT2:V.IsTuple T #[.int i t,x']:=ht.at λo z=>k2 T o (W.apart i T h' S) z;have D:∀c∈[e,f],∃j,s.heap.get? c=some j:=λc B=>by
   rcases AU.mp B with rfl | hb
   .exact⟨_,O⟩
   .rw[AE.mp hb];obtain⟨o,h4,_⟩:=oI _ _ _ _ R;exact⟨o,h4⟩
  refine⟨.ref T,H_ H T (.tup [.int i,x]),I.turnLaid (fp:=[e,f]) (λb o hb G=>k2 b o hb (k b o hb G)) F D hT ⟨?_,[.int i t,x'],.cons ⟨t,rfl⟩ (.cons ru .nil),hT2⟩,rfl,⟨T,x,rfl,I.hok.fresh hT,rfl,λzs hz=>by rw[uI _ _ _ _ _ _ _ _ L I hz M];exact N⟩,⟨J.1,J.2.1⟩,λc B=>?_⟩
  .show 2<=sizeLine;decide
  .obtain⟨j,G⟩:=D c B;rw[B7 (BA (BI (AG G) hT))];exact(F c B).1
 done:=by
  intro X Y Z L y i g s σ H E I F st hg;subst Y Z;obtain⟨xs,M,N⟩:=hg;obtain⟨its,rv,p⟩:=gI _ _ _ _ _ _ _ L I M;obtain⟨⟨d,O⟩,R⟩:=id st;have W:=WI X.A (I.ok.hd y) (nE _ _ _ _ _ _ _ O p) (nI _ _ _ _ _ _ R p) its.toArray;have hi:i=its.toArray.size:=by rw[AR,<-rv.length,N]
  rw[hi]at st;refine W.done s _ _ ⟨st.1,st.2,p⟩ λh' tk k=>⟨rfl,?_⟩;refine I.step (h':=h') (H':=H) (t':=tk) (g':=s.gens) (d':=s.drawn) (ch:=[e,f]) (λb hb=>let⟨_,f1,_,f3,f4,f5⟩:=F b hb;⟨f3,f1,f4,f5⟩) (λb j _ _ y e _=>k b j y e) (λb j _ _ y e _=>⟨j.slots,k b j y e⟩) (λ_ _ _ _ n=>n)
   (λb j y e=>⟨j,k b j y e⟩) (λ_ _ e=>e) (λ_ _ _ e=>e) (λb ps e=>⟨#[],by rw[e];simp⟩) (λm S=>?_) (λb u G=>?_) I.bare
  .obtain⟨j,es,ep,ho,r⟩:=S;exact⟨j,es,ep,k _ j (λhb=>(F _ hb).2.1 rfl) ho,r⟩
  .have nf:∀b u,H b=some u->b∉[e,f]:=λb u e hb=>by rw[(F b hb).1]at e;cases e
   refine(I.hok b u G).stay (λc v y q=>k c v ?_ q) (λ_ q=>q) λ_ _ q=>q;rcases y with z | z
   .rw[z];exact nf b u G
   .exact nf c _ z
 self:=λA i s Q E st h=>let⟨_,he⟩:=st.1;HN he h
theorem Ot(a b e:A3)(j:e≠b):MQ P w K (.Tuple elts kk tp) (SZ (II K) a) [e,b] e (λi h=>(∃m,IsEnum h e b (i:Int) m)/\h.IsListIter b a i) :=
 Ee (isIt:=Heap.IsListIter) (isq:=Heap.IsList) (λh c l i ⟨o,e,_,d⟩=>⟨o,e,λv z=>by rw[d]at z;cases z⟩) (λh L c l i z k=>z.at k) (λX n σ H s c B t I u=>by subst t;obtain⟨f,C,p,_⟩:=I.list u;exact⟨f,C,p.isList⟩) (λX n σ H s c B M t I u D=>by subst t;exact I.list_inj u D)
  (λh c e b i m f E ⟨o,q,r,_⟩ z=>by
   rw[z,E]at q;cases q;exact absurd (show Value.type "enumerate" = .type "list" from r) (by decide))
  (λh c l i f e ⟨N,x,y,_⟩ ⟨o,q,r,_⟩ z=>by
   rw[z,x]at q;cases q;rw[y]at r;exact absurd r (by decide)) a b e j λA F G J g=>WalksT.enumerate F e b a j G J g
theorem Nf(a b e:A3)(j:e≠b):MQ P w K (.Tuple elts kk tp) (SZ (IV K) a) [e,b] e (λi h=>(∃m,IsEnum h e b (i:Int) m)/\h.IsTupleIter b a i) :=
 Ee (isIt:=Heap.IsTupleIter) (isq:=Heap.IsTuple) (λh c l i ⟨o,e,_,d⟩=>⟨o,e,λv z=>by rw[d]at z;cases z⟩) (λh L c l i z k=>z.at k) (λX n σ H s c B t I u=>by subst t;obtain⟨f,C,p,_⟩:=I.tuple u;exact⟨f,C,p⟩) (λX n σ H s c B M t I u D=>by subst t;exact I.tuple_inj u D)
  (λh c e b i m f E ⟨o,q,r,_⟩ z=>by
   rw[z,E]at q;cases q;exact absurd (show Value.type "enumerate" = .type "tuple" from r) (by decide))
  (λh c l i f e ⟨N,x,y,_⟩ ⟨o,q,r,_⟩ z=>by
   rw[z,x]at q;cases q;rw[y]at r;exact absurd r (by decide)) a b e j λA F G J g=>Zo F e b a j G J g
end
section
variable{X:Cx}{elts:A0 IG}{kk:Nat}{tp:Pos}
def zFk(K:VA)(R:It->Hp->Prop)(a:A3)(xs:A0 V)(H:Hp):Prop:=II K H a xs/\R (SZ (II K) a) H\/IV K H a xs/\R (SZ (IV K) a) H
def Xq(K:VA)(b:TA):TI:=λσ H R=>b σ H λc d=>∃a e,c = [.ref a]/\zFk K R a e d
theorem Wr{a:IG}{v:TA}{p i:Pos}(w:Gl X "enumerate")(x:X.mg "enumerate" = none)(y:bootBuiltins "enumerate" = some (.type "enumerate"))(A:PA X [a] v)(B:starEach [a] X.env = [(false,eval a X.env)]:=by rfl):PI X (.Tuple elts kk tp) (.Call (.Name "enumerate" p) [a] [] i) (Xq X.K v):=by
 intro d s σ H R I h;refine Call_ (An I w x y (VP (JB (A i d s σ H _ I h) λM c ⟨N,n,f,C,D⟩=>?_) B rfl));obtain⟨l,O,e,q⟩:=D;subst e;obtain⟨u,rfl,E⟩:=Y3 C;cases E;have j:∀b∈[c.heap.objs.size+1,c.heap.objs.size],Dz X d n b:=λb hb=>by
  rcases AU.mp hb with z | hb
  .rw[z];exact f.fpOk (DM _) (f.hok.fresh (DM _))
  .rw[AE.mp hb];exact f.fpOk (VD _) (f.hok.fresh (VD _))
 rcases q with⟨o,q⟩ | ⟨o,q⟩
 .obtain⟨r,F,t,G⟩:=f.list o;exact call_enumerate_list t.isList λJ m g L k=>HN m ⟨c.heap.objs.size+1,_,_,_,n,rfl,f.kept (t':=c.toks) k,Ot l c.heap.objs.size (c.heap.objs.size+1) (Nat.succ_ne_self _),⟨⟨_,m⟩,g⟩,j,q⟩
 .obtain⟨r,F,t,G⟩:=f.tuple o;exact Pb t λJ m g k=>HN m ⟨c.heap.objs.size+1,_,_,_,n,rfl,f.kept (t':=c.toks) k,Nf l c.heap.objs.size (c.heap.objs.size+1) (Nat.succ_ne_self _),⟨⟨_,m⟩,g⟩,j,q⟩
end
def Nc{K:VA}{R:It->Hp->Prop}{a:A3}{xs:A0 V}{H H':Hp}(h:QQ K H a xs)(k:JW a H H')(q:∀c:Hp->A3->A0 V->Prop,(∀b,JW a H b->c b a xs)->R (SZ c a) H'):zFk K R a xs H':=by
 rcases h with h | h
 .exact .inl ⟨k.seqL h,q _ λb k=>k.seqL h⟩
 .exact .inr ⟨k.seqT h,q _ λb k=>k.seqT h⟩
section
variable{X:Cx}(K:VA)
theorem zFu{b:A0 IG}{kk:Nat}{e:Pos}{a:IG}{d:TA}{p c:Pos}(f:X.mg "enumerate" = none)(g:PA X [a] d)(h:Gl X "enumerate":=by rfl)(i:starEach [a] X.env = [(false,eval a X.env)]:=by rfl)(j:X.K=K:=by rfl) :
  PI X (.Tuple b kk e) (.Call (.Name "enumerate" p) [a] [] c) (Xq K d):=by subst j;exact Wr h f Hr g i
end
section
variable{X:Cx}{tg iter elt:IG}{ifs:A0 IG}{scope:KR}{cl:A0 (Str×A3)}{N':A0 Str}{cap:A0 (A5 Nat)}{wi:TI}{pos:Pos}
theorem Gm{e:IG}{gs:A0 Comprehension}{newAcc:Sem A2}{p2:Pos}{use:A5 (A2->Sem Unit)}{Qv:A2->A4->Prop}(q:clausesOf e =⟨tg,iter,ifs,0⟩::gs)(o:A3->HO)(hs:∀x,foldedSetIterable iter X.env x=pure x)(S:MN X scope cl N' cap)(hc:X.calm=true)(hi:PI X tg iter wi)
  {lp:A3->It->St->Hp->(St->Hp->Prop)->Prop}
  (r:∀(a:A0 (A3×Obj)) (s:A4) (σ:St) (H:Hp) (Q:A2->A4->Prop) (E:A2->A4->Prop),Inv X a σ H s->(∀g,Inv X a σ (H_ H s.heap.objs.size (o s.heap.objs.size)) g->(∀b f,s.heap.get? b=some f->g.heap.get? b=some f)->Q (.ref s.heap.objs.size) g)->wpAny (model X.prog X.w) X.A newAcc Q E s)
  (G:∀(a:A0 (A3×Obj)) (L:A0 A3) (s3:A4) (M:Hp) (D l:A3) (fp:A0 A3) (tn:Nat->IC->Prop) (J:It) (σ:St) (s:A4) (H:Hp) (Q:St->Hp->Prop) (R:Result->A4->Prop),
   MQ X.prog X.w X.K tg J fp l tn->Inv (LZ X scope cl N' a L s3 M) [] σ H s->tn 0 s.heap->(∀b∈fp,Dz (LZ X scope cl N' a L s3 M) [] H b)->lp D J σ H Q ->
   (∀g σ' H',Inv (LZ X scope cl N' a L s3 M) [] σ' H' g->Q σ' H'->R (.ok .next) g) ->
   codeAny (model X.prog X.w) X.A (.compLoop e 0 (.ref l) (.ref D) (compEnvC scope cl s3.heap.objs.size X.env)) R s)
  (N:∀l D i,X.A.under (.compStart e 0 (.ref l) (.ref D) i)=X.A) (t:∀l D i,(model X.prog X.w).den (.compStart e 0 (.ref l) (.ref D) i) =(compStart e 0 (.ref l) (.ref D) i).onRaise (λx=>do noteFrame x i;standAt theWindowsPlace))
  {a:A0 (A3×Obj)} {s:A4} {σ:St} {H:Hp} {Q:V->Hp->Prop} (I:Inv X a σ H s) (h:Ji wi o cap lp σ H Q)
  (u:∀(D:A3) (fp:A0 A3) (k:Hp) (s3 g:A4) (σ':St) (H':Hp),Inv X a σ k s3->(∀b∈fp,Dz X a k b)->Inv (LZ X scope cl N' a fp s3 k) [] σ' H' g->Q (.ref D) H'->compPost (model X.prog X.w) X.A X.xe use Qv (.ref D) s3.heap.objs.size (.ok .next) g) :
  wpAny (model X.prog X.w) X.A (comprehension e scope X.env p2 newAcc false (eval iter X.env) use) Qv X.xe s:=by
 refine wpAny_comprehension_free q hs S.clos S.kind S.loc (JB (hi a s σ H _ I h) λv s1 B=>JB B λitv j h2=>?_);obtain⟨l,fp,tn,J,k,O,I2,T,C,f2,R2⟩:=h2;subst O;refine r a j σ k _ _ I2 λs3 P k3=>?_;have hD:k j.heap.objs.size=none:=I2.hok.fresh (VD _);have n:∀b∈fp,Dz X a (H_ k j.heap.objs.size (o j.heap.objs.size)) b/\∃f,s3.heap.get? b=some f:=λb m=>by
  obtain⟨f,e,_⟩:=T.obj _ _ C b m;obtain⟨U,fr⟩:=f2 b m;exact⟨⟨by rw[B7 (BA (AG e))];exact U,fr⟩,f,k3 b f e⟩
 refine wpAny_newFunctionEnv S.nocell (by intro y hy;simp at hy) (λB W Y=>?_) S.kind;have hk:∀b f,s3.heap.get? b=some f->B.get? b=some f:=λb f e=>(Y.2 b (BA (AG e))).trans (AC _ e);have I4:Inv (LZ X scope cl N' a fp s3 (H_ k j.heap.objs.size (o j.heap.objs.size))) [] (Yh cap σ) (H_ k j.heap.objs.size (o j.heap.objs.size)) { s3 with heap:=B,toks:=s3.toks +([]:A0 (Str×A2)).length } :=
  P.block S hc n W hk
 have F:tn 0 B:=T.keep 0 _ _ C λb m f e=>hk b f (k3 b f e);refine Eh (X:=LZ X scope cl N' a fp s3 (H_ k j.heap.objs.size (o j.heap.objs.size))) (gs:=⟨tg,iter,ifs,0⟩::gs) (e:=e) (d:=0) (tg:=tg) (iter:=iter) (ifs:=ifs) (N _ _ _) (t _ _ _) q rfl T F ?_;refine G a fp s3 _ j.heap.objs.size l fp tn J (Yh cap σ) _ _ _ _ T I4 F (λb m=>?_) (R2 _ hD) λg σ' H' I' q'=>?_
 .obtain⟨⟨U,f1,Z,f3,f4,f5⟩,f,eo⟩:=n b m;refine⟨U,BA (AG eo),λhf=>?_,.inl m,λx c e=>f4 x c (S.cin.get e),λp hp=>f5 p (by simpa [LZ] using hp)⟩;rcases AU.mp (P.stkSub b hf)with z | z
  .exact f1 z
  .exact Z z
 .exact u _ fp _ s3 g σ' H' P (λb m=>(n b m).1) I' q'
theorem W9{i:Nat}{x:Str}{o j:Pos}{g:TG}{V:TT}{W:TE}(hN:X.N.Nodup)(hi:X.N[i]?=some x)(hx:Loc X.env.scope x)(S:MN X scope cl N' cap)(p:X.calm=true)(hI:PI X tg iter wi)
  (t:∀(d:A0 (A3×Obj)) (y:A0 A3) (l:A4) (A:Hp),PG (LZ X scope cl N' d y l A) tg g/\SO (LZ X scope cl N' d y l A) ifs V/\PE (LZ X scope cl N' d y l A) elt W)
  (hs:∀x,foldedSetIterable iter X.env x=pure x:=by intro _;rfl)
  (F:swapsWith (.ListComp elt [⟨tg,iter,ifs,0⟩] scope j) (some (.Name x o)) pos.line X.env=pure true:=by rfl)
  (G:X.fn x=true\/X.env.scope.names.lookup x=some .local:=by first | exact .inl rfl | exact .inr rfl | assumption) :
  PS X (.Assign [.Name x o] (.ListComp elt [⟨tg,iter,ifs,0⟩] scope j) pos) (SW (Ji wi (λ_=>.lst []) cap λD J σ H Q=>Ax g V (g7 D W) J σ H Q) (P2 i)):=by
 intro d s σ H D I h;rw[exec_Assign];refine AA (EZ (AA (EG F (FD rfl (AA (AA ?_))))));refine Gm (newAcc:=newList []) (p2:=firstIterPos [⟨tg,iter,ifs,0⟩] j) rfl (λ_=>.lst []) hs S p hI (λd s σ H Q E I h=>?_) (λd y l A D it fp tn J σ s H Q R T I st G h hR=>?_) (λ_ _ _=>rfl) (λ_ _ _=>rfl) I h λE fp H2 l s' σ' H' Y K L q=>?_
 .refine wpAny_newList ?_;exact h _ (I.lnew (t':=s.toks) (its:=[]) .nil (CB _)) λb f e=>AC _ e
 .obtain⟨b1,b2,b3⟩:=t d y l A;exact o9 (X:=LZ X scope cl N' d y l A) rfl rfl p rfl (Dp elt tg iter ifs scope j _ _ _) b1 b2 (Li rfl b3) T I st G h hR
 .have IX:Inv X d σ H' s':=Y.unblock K L ⟨rfl,λ_ _=>rfl⟩;have w:Dz X d H' l.heap.objs.size:=Y.fpOk (VD _) L.free;obtain⟨m,hn,_⟩:=L.loc;show wpAny _ _ (assign (.Name x o) X.env (.ref E)) _ _ _;refine wpAny_assign_Name (Cm (v:=.ref E) IX hN hi hx rfl (λC M ⟨a,O,ha⟩=>?_) G);have nC:l.heap.objs.size≠a:=by
   rcases ha with rfl | ha
   .exact w.2.1
   .exact(w.2.2.2.2.1 _ _ ha).symm
  refine⟨m,?_,λh' B=>AD (AD ?_)⟩
  .obtain⟨f,P,U,e1,r⟩:=hn;exact⟨f,P,U,(O.2 _ nC).trans e1,r⟩
  refine⟨_,H',?_,q⟩;have k:∀b f,b∉[l.heap.objs.size]->C.heap.get? b=some f->h'.get? b=some f:=λb f t e=>(B.2 b λz=>t (AE.mpr z)).trans e;refine M.step (h':=h') (H':=H') (t':=C.toks) (g':=C.gens) (d':=C.drawn) (ch:=[l.heap.objs.size]) (λb t=>by rw[AE.mp t];exact⟨w.2.2.2.1,w.2.1,w.2.2.2.2⟩) (λb f _ _ p e _=>k b f p e) (λb f _ _ p e _=>⟨f.slots,k b f p e⟩) (λ_ _ _ _ n=>n)
   (λb f p e=>⟨f,k b f p e⟩) (λ_ _ e=>e) (λ_ _ _ e=>e) (λb ps e=>⟨#[],by rw[e];simp⟩) (λm hm=>?_) (λb u Z=>?_) M.bare
  .obtain⟨f,P,U,ho,r⟩:=hm;exact⟨f,P,U,k _ f (λt=>w.2.1 (AE.mp t).symm) ho,r⟩
  .have nf:∀b u,H' b=some u->b∉[l.heap.objs.size]:=λb u e t=>by rw[AE.mp t,w.1]at e;cases e
   refine(M.hok b u Z).stay (λc v p q=>k c v ?_ q) (λ_ q=>q) λ_ _ q=>q;rcases p with z | z
   .rw[z];exact nf b u Z
   .exact nf c _ z
end
structure IsC(K:VA)(C:A3):Prop where
 ha:PySem.W.findIn K (.ref C) "__class__" = some (some (.builtin "object.__class__"))
 hn:PySem.W.specialIn K (.builtin "object.__class__") "__get__" = some (some (.builtin "getset_descriptor.__get__"))
 htk:PySem.W.takesIn K (.builtin "object.__class__")=some true
 hm:PySem.W.mroIn K C (.type "object")=some true
 one:PySem.W.kitOne K (.ref C) (.ref C)=some true
def NM(K:VA)(a:A3):PySem.W.kitOne K (.ref a) (.ref a)=some true:=AN (beq_self_eq_true _)
def Cc(l xs:A0 Str):A0 Str:=xs.foldl Xp l
def Wb(l:A0 Str)(x:Str):(Xp l x).length<=l.length+1:=by
 unfold Xp;split
 .lia
 .rw[AV];exact VD _
def zDa{w:HZ}{h h':IC}{a:A3}{ss:A0 Str}(z:ST.WS w h a ss)(k:∀o,h.get? a=some o->h'.get? a=some o):ST.WS w h' a ss:=by
 obtain⟨o,b,c,t,S,r⟩:=z;exact⟨o,b,c,t,S.at (k o S.ho),r⟩
section
variable{prog:HX}{w:HZ}{A:IE}{R:Result->A4->Prop}{I:A3}{fp wr:A0 A3}{G:HW GenState->HW GenState->Prop}{n:Nat}{P:Nat->A2->Prop}{St:Nat->A4->Prop}
theorem Rf(W:WalksS prog w A.in1 I fp wr G n P St)(S:A3)(d:S∉fp)(xs:A0 Str)(E:xs.length=n)(f:∀i v,P i v->∃x t,xs[i]?=some x/\v = .str x t) :
  ∀(k i:Nat) (s:A4) (ss:A0 Str),n-i=k->i<=n->St i s->ST.WS w s.heap S ss->ss.length+k<4096 ->
   (∀s',Moved (S::wr) G s s'->ST.WS w s'.heap S (Cc ss (xs.drop i))->R (.ok (.ret .none)) s') ->
   codeAny (model prog w) A (.builtin "set.update.loop" ⟨[.ref S,.ref I],[]⟩) R s:=by
 have g:S∉wr:=λh=>d (W.sub _ h);have a:∀b∈wr,b∈S::wr:=λb j=>AL _ j;intro k
 induction k with
 | zero =>
  intro i s ss H J c y _ z;have B:i=n:=by lia
  subst B;refine DI F.entry_set_update_loop ?_;rw[Around.under_plainId F.plain_set_update_loop _];refine AA (W.done s _ _ c λs' l=>?_);have q:=z s' (l.mono a);rw[<-E,HU]at q;exact AD (q (zDa y λo=>l.heap S o g))
 | succ k K =>
  intro i s ss H J c y T z;refine DI F.entry_set_update_loop ?_;rw[Around.under_plainId F.plain_set_update_loop _];refine AA (W.item i s _ _ (by lia) c λv s' L m l=>?_);obtain⟨x,t,M,rfl⟩:=f i v L;show wpAny _ A.in1 (holding [Value.str x t] (setAdd S (.str x t)) >>= _) _ _ s';refine AA (BP ?_);unfold setAdd;refine BP (AA (wpAny_pyHash_str ?_));refine ST.QP (s:={ s' with toks:=s'.toks+1 }) (zDa y λo=>l.heap S o g) (by lia) λU b p N=>?_;refine AD ⟨plainId_quiet F.plain_set_update_loop _,K (i+1) _ (Xp ss x) (by lia) (by lia) (W.frame _ s' _ _ m (DM _) λb j o e=>?_) N (by have:=Wb ss x;lia) λC r u=>?_⟩
  .rw[p.2 b (λh:b=S=>d (by rw[<-h];exact j))];exact e
  .refine z C (Moved.trans W.gtrans ((l.mono a).then_heap (DM _) λb o j e=>?_) r) ?_
   .rw[p.2 b (λh:b=S=>j (by rw[h];exact AX))];exact e
   .have O:xs.drop i=x::xs.drop (i+1):=by
     obtain⟨D,Q⟩:=AK.mp M;rw[<-Q];exact DV D
    rw[O];exact u
end
section
variable{prog:HX}{w:HZ}{A:IE}{E:A2->A4->Prop}{s:A4}
abbrev LD(w:HZ):Obj:={ cls:=.type "set",dict:=none,data:=.set #[] 0 (.fresh 0 0 (!(w.params.followText "set-order"))) }
theorem Us{h:IC}{a:A3}(e:h.get? a=some (LD w)):ST.WS w h a [] :=
 ⟨_,#[],0,_,⟨e,⟨rfl,rfl,rfl⟩,rfl,by rfl,rfl,λ_=>rfl,by decide⟩,⟨λe b=>by simp at b,by simp,D_⟩⟩
theorem Vc(a:A2){Q₁:A2->A4->Prop}(h:Q₁ (.ref s.heap.objs.size) { s with heap:=s.heap.push (LD w) }) :
  codeAny (model prog w) A (.call (.builtin "set.__new__") ⟨[.type "set",a],[]⟩) (wants Q₁ E) s:=by
 refine codeAny_of_tree ?_;show wpAny _ A.in1 (do checkBuiltinCall "set.__new__" ⟨[.type "set",a],[]⟩;again (.builtin "set.__new__" ⟨[.type "set",a],[]⟩)) _ _ s;refine AA (EG (F.newCall_set_1 a) (AD ⟨plainId_quiet F.plain_set_new _,DI F.entry_set_new ?_⟩));rw[Around.under_plainId F.plain_set_new _];unfold Builtin.«set.__new__» Builtin.Frozenset.newClass;have b:=sub_set_self;obtain⟨c,g,d,e,os⟩:=s;dsimp only;wp_walk;refine GV (AD ?_);dsimp only;simp only[newObj];refine AA (wpAny_alloc (AD ?_));exact AD h
set_option maxHeartbeats 3200000 in
theorem Ec{l:A3}{g H:Obj}{z:String}{xs:A0 Str}{n:Nat}{P:Nat->A2->Prop}{St:A3->Nat->IC->Prop}{Q:A2->A4->Prop}(hh:A.handled=none)(j:s.heap.get? l=some g)(k:g.cls = .type z)
  (hs1:isSubtype (.type z) (.type "set")=pure false) (hs2:isSubtype (.type z) (.type "frozenset")=pure false) (hne:(Value.type z == Value.type "dict")=false)
  (J:∀{A:IE} {E:A2->A4->Prop} {Q:A2->A4->Prop} (s1:A4),s1.heap.get? l=some g->Q (.ref s1.heap.objs.size) { s1 with heap:=s1.heap.push H }->wpAny (model prog w) A (pyIter (.ref l)) Q E s1)
  (hW:∀(A:IE) (I:A3),A.handled=none->l≠I->Walks prog w A I [I,l] [I] n P (St I)) (K:∀(h:IC) (I:A3),h.get? I=some H->h.get? l=some g->St I 0 h) (m:H.isFreed=false)
  (hn:xs.length=n) (p:∀i v,P i v->∃x t,xs[i]?=some x/\v = .str x t) (B:n<4096)
  (h:∀(h':IC) (C:Nat),ST.WS w h' s.heap.objs.size (Cc [] xs)->(∀b o,s.heap.get? b=some o->h'.get? b=some o)->Q (.ref s.heap.objs.size) { s with heap:=h',toks:=C }) :
  wpAny (model prog w) A (call (.type "set") [.ref l]) Q E s:=by
 obtain⟨c,tl,hmro⟩:=F.called_set.mro;have L:=F.called_set.made;have hsub:=F.called_set.sub;refine wpAny_call (codeAny_of_tree ?_);show wpAny _ _ (callAny (.type "set") _) _ _ _;refine AD ⟨Code.quiet_builtin _ (by decide +kernel),DI F.entry_type_call ?_⟩;rw[Around.under_plain (weight_type_call_type "set" [.ref l] []) rfl];have h1:=F.called_set.notType;have h2:=F.called_set.canCreate;have hct:=F.typeCall_set_1 (.ref l)
 repeat (any_goals (first | assumption | wp_step))
 refine FK (Vc (.ref l) (E:=E) (Q₁:=λq i1=>q = .ref s.heap.objs.size/\i1 ={ s with heap:=s.heap.push (LD w) }) ⟨rfl,rfl⟩) λr i1 d=>?_;cases r with
 | error e=>exact d
 | ok M =>
  cases M with
  | ret q =>
   obtain⟨rfl,rfl⟩:=d;have hS:(s.heap.push (LD w)).get? s.heap.objs.size=some (LD w):=AW _ rfl;have hT:Shared.TypeIs { s with heap:=s.heap.push (LD w) } (.ref s.heap.objs.size) "set":=⟨_,hS,rfl⟩;have hli:=F.called_set.init.lookup;have hbi:=F.called_set.init.bind (.ref s.heap.objs.size)
   repeat (any_goals (first | assumption | wp_step))
   refine FK (codeAny_call_builtin (R:=wants (λr n0=>r = .none/\∃h' C,n0 ={ s with heap:=h',toks:=C }/\ST.WS w h' s.heap.objs.size (Cc [] xs) /\
     (∀b o,s.heap.get? b=some o->h'.get? b=some o)) E) F.called_set.init.plain F.entry_set_init (check_set_init_1 hT ?_)) λr₂ n0 d₂=>?_
   .have a:(s.heap.push (LD w)).get? l=some g:=AC _ j;obtain⟨ocls,N,O,D⟩:=g;simp only at k;subst k;unfold Builtin.«set.__init__» noKeywords Builtin.Frozenset.updateFrom;generalize S:pyIter=PI;wp_walk;subst S;refine J _ a ?_;refine AA (wpAny_runValue ?_);have u:l<s.heap.objs.size:=AG j;have T:A.in1.in1.in1.handled=none:=by simp[hh]
    have y:l≠(s.heap.push (LD w)).objs.size:=by
     rw[CU];exact BA (EU u)
    have U:s.heap.objs.size∉[(s.heap.push (LD w)).objs.size,l]:=by
     rw[CU];simp only[AU,A_,or_false,not_or];exact⟨BA (FA _),GT u⟩
    refine Rf ((hW _ _ T y).toS) s.heap.objs.size U xs hn p (n-0) 0 _ [] rfl (CB _) (K _ _ (AW _ m) (AC _ a)) (Us (AC _ hS)) (by simpa using B) λs' G f=>?_;obtain⟨h',g',d',V,W⟩:=s';have eg:g'=s.gens:=G.gens;have ed:d'=s.drawn:=G.drawn;have eo:W=s.os:=G.os;subst eg;subst ed;subst eo;show wpAny _ _ _ _ _ _;refine AD ?_;show wpAny _ _ (ret Value.none) _ _ _;refine AD ⟨rfl,h',V,rfl,f,λb o e=>?_⟩;have B:=AG e;have X:b≠s.heap.objs.size:=BA B;have Y:b≠(s.heap.push (LD w)).objs.size:=by
     rw[CU];exact BA (EU B)
    exact G.heap b o (by simp only[AU,A_,or_false,not_or];exact⟨X,Y⟩) (AC _ (AC _ e))
   .cases r₂ with
    | error e=>exact d₂
    | ok M₂ =>
     cases M₂ with
     | ret r =>
      obtain⟨rfl,h',C,rfl,f,Z⟩:=d₂
      repeat (any_goals (first | assumption | wp_step))
      exact h _ _ f Z
     | _=>exact d₂.elim
  | _=>exact d.elim
end
def Ep:isSubtype (.type "tuple") (.type "set")=pure false:=by rw[isSubtype_type];kernel_rfl
def n8:isSubtype (.type "tuple") (.type "frozenset")=pure false:=by rw[isSubtype_type];kernel_rfl
def Gy:∀{xs l:A0 Str},xs.Nodup->(∀x∈xs,x∉l)->Cc l xs=l++xs
 | [],l,_,_=>(BW l).symm
 | x::xs,l,c,a=>by
  obtain⟨d,f⟩:=CL.mp c;show Cc (Xp l x) xs=_;have e:Xp l x=l ++ [x]:=AI (a x (AX ..));rw[e,Gy f λy b hm=>?_,BG]
  .rfl
  .rcases AO.mp hm with hm | hm
   .exact a y (AL _ b) hm
   .exact d (AE.mp hm▸b)
def Pn{ss:A0 Str}{its:A0 A2}(r:IJ (ss.map V.str) its)(i:Nat)(v:A2)(e:its.toArray[i]?=some v):∃x t,ss[i]?=some x/\v = .str x t:=by
 rw[DY]at e;cases h:ss[i]? with
 | none =>
  have:=r.none_of (i:=i) (by rw[AH,h];rfl);rw[this]at e;cases e
 | some x =>
  obtain⟨u,a,t,b⟩:=r.get (i:=i) (x:=.str x) (by rw[AH,h];rfl);rw[a]at e;cases e;exact⟨x,t,rfl,b⟩
theorem Yx(K:VA)(w:HZ)(E:X.calm=true:=by rfl)(J:X.K=K:=by rfl)(hw:X.w=w:=by rfl):J8 X (.type "set") (λxs H Q=>∃(p:A3) (ss:A0 Str),xs = [.ref p]/\(II K H p (ss.map V.str)\/IV K H p (ss.map V.str))/\ss.Nodup/\ss.length<4096/\∀l,H l=none->Q (.ref l) (H_ H l (Bq w l ss))):=by
 subst J;subst hw;intro g s σ H xs R Q I r h;obtain⟨p,ss,rfl,hq,L,G,q⟩:=h;obtain⟨u,rfl,M⟩:=Y3 r;cases M;have N:Cc [] ss=ss:=Gy L λ_ _ h=>nomatch h
 have i:∀(t:IC) (v:Nat),ST.WS X.w t s.heap.objs.size (Cc [] ss)->(∀b o,s.heap.get? b=some o->t.get? b=some o)->EP X g σ Q (.ref s.heap.objs.size) { s with heap:=t,toks:=v }:=λt v z k=>by
  rw[N]at z;exact⟨.ref s.heap.objs.size,_,I.laid (t':=v) k (VD _) (Yj z),rfl,q _ (I.hok.fresh (VD _))⟩
 rcases hq with hq | hq
 .obtain⟨d,j,x,O⟩:=I.list hq;have a:=j.length;rw[AB]at a;obtain⟨o,y,c,n,m⟩:=x.isList;exact Ec (I.ok.hd E) y c F.sub_list_set F.sub_list_frozenset (by decide) (λP e q=>FJ ⟨_,e,c,n,m⟩ q) (λA I B f=>Walks.list B I p f d.toArray) (λh I C D=>⟨⟨_,C,rfl,rfl⟩,⟨_,D,c,n,m⟩⟩) rfl (by simp[a]) (Pn j) (by simpa [<-a] using G) i
 .obtain⟨d,j,x,O⟩:=I.tuple hq;have a:=j.length;rw[AB]at a;obtain⟨o,y,c,n,m⟩:=x;exact Ec (I.ok.hd E) y c Ep n8 (by decide) (λP e q=>FX ⟨_,e,c,n,m⟩ q) (λA I B f=>Walks.tuple B I p f d.toArray) (λh I C D=>⟨⟨_,C,rfl,rfl⟩,⟨_,D,c,n,m⟩⟩) rfl (by simp[a]) (Pn j) (by simpa [<-a] using G) i
theorem zDg(w:HZ)(hw:X.w=w:=by rfl):PX X "set.add" (zCq w):=by subst hw;exact zAb
def zDe(K:VA):V->A0 V->Hp->VK->Prop:=λx b H Q=>∃(z:Str) (p:A3) (a:A0 Str),x = .str z/\b = [.ref p]/\II K H p (a.map V.str)/\(a.map λx=>x.length).sum+a.length*z.length<=16777216/\Q (.str (Txt.join z a)) H
theorem zAm:PX X "str.join" (zDe X.K):=by
 intro b s σ H x j v l Q I c a h;obtain⟨z,p,m,rfl,rfl,d,e,q⟩:=h;obtain⟨t,rfl⟩:=c;obtain⟨u,rfl,f⟩:=a.one;cases f;obtain⟨g,a,i,n⟩:=I.list d;exact PyProof.Rows.join_list i.isList (by simpa using U7 a) e λo k=>⟨.str _,H,I.tok _,⟨_,rfl⟩,q⟩
variable(K:VA)
theorem Yz(a:X.K=K:=by rfl):PX X "str.join" (zDe K):=by subst a;exact zAm
section
variable{X:Cx}{tg iter elt:IG}{ifs:A0 IG}{scope:KR}{cl:A0 (Str×A3)}{N':A0 Str}{cap:A0 (A5 Nat)}{wi:TI}{pos:Pos}
theorem Wq{i:Nat}{x:Str}{p j:Pos}{g:TG}{W:TT}{a b:IG}{Y Z:TE}(hN:X.N.Nodup)(hi:X.N[i]?=some x)(hx:Loc X.env.scope x)(S:MN X scope cl N' cap)(t:X.calm=true)(hI:PI X tg iter wi)
  (w:∀(d:A0 (A3×Obj)) (y:A0 A3) (l:A4) (A:Hp),PG (LZ X scope cl N' d y l A) tg g/\SO (LZ X scope cl N' d y l A) ifs W/\PE (LZ X scope cl N' d y l A) a Y/\PE (LZ X scope cl N' d y l A) b Z)
  (hs:∀x,foldedSetIterable iter X.env x=pure x:=by intro _;rfl)
  (G:swapsWith (.DictComp a b [⟨tg,iter,ifs,0⟩] scope j) (some (.Name x p)) pos.line X.env=pure true:=by rfl)
  (K:X.fn x=true\/X.env.scope.names.lookup x=some .local:=by first | exact .inl rfl | exact .inr rfl | assumption) :
  PS X (.Assign [.Name x p] (.DictComp a b [⟨tg,iter,ifs,0⟩] scope j) pos) (SW (Ji wi (λ_=>.dK []) cap λD J σ H Q=>Ax g W (Et D Y Z) J σ H Q) (P2 i)):=by
 intro d s σ H D I h;rw[exec_Assign];refine AA (EZ (AA (EG G (FD rfl (AA (AA ?_))))));refine Gm (newAcc:=newDict) (p2:=firstIterPos [⟨tg,iter,ifs,0⟩] j) rfl (λ_=>.dK []) hs S t hI (λd s σ H Q E I h=>?_) (λd y l A D it fp tn J σ s H Q R T I st K h hR=>?_) (λ_ _ _=>rfl) (λ_ _ _=>rfl) I h λE fp H2 l s' σ' H' I3 L M q=>?_
 .refine BV ?_;exact h _ (I.laid (a:=s.heap.objs.size) (o:=.dK []) (t':=s.toks) (λ_ _ q=>AC _ q) (VD _) (Ew s.heap I.big)) λb f e=>AC _ e
 .obtain⟨b1,b2,b3,b4⟩:=w d y l A;exact o9 (X:=LZ X scope cl N' d y l A) rfl rfl t rfl (Ds a b tg iter ifs scope j _ _ _) b1 b2 (Mf rfl b3 b4) T I st K h hR
 .have IX:Inv X d σ H' s':=I3.unblock L M ⟨rfl,λ_ _=>rfl⟩;have B:Dz X d H' l.heap.objs.size:=I3.fpOk (VD _) M.free;obtain⟨m,hn,_⟩:=M.loc;show wpAny _ _ (assign (.Name x p) X.env (.ref E)) _ _ _;refine wpAny_assign_Name (Cm (v:=.ref E) IX hN hi hx rfl (λF O ⟨a,P,ha⟩=>?_) K);have nC:l.heap.objs.size≠a:=by
   rcases ha with rfl | ha
   .exact B.2.1
   .exact(B.2.2.2.2.1 _ _ ha).symm
  refine⟨m,?_,λh' C=>AD (AD ?_)⟩
  .obtain⟨f,U,V,e1,r⟩:=hn;exact⟨f,U,V,(P.2 _ nC).trans e1,r⟩
  refine⟨_,H',?_,q⟩;have k:∀b f,b∉[l.heap.objs.size]->F.heap.get? b=some f->h'.get? b=some f:=λb f w e=>(C.2 b λz=>w (AE.mpr z)).trans e;refine O.step (h':=h') (H':=H') (t':=F.toks) (g':=F.gens) (d':=F.drawn) (ch:=[l.heap.objs.size]) (λb w=>by rw[AE.mp w];exact⟨B.2.2.2.1,B.2.1,B.2.2.2.2⟩) (λb f _ _ t e _=>k b f t e) (λb f _ _ t e _=>⟨f.slots,k b f t e⟩) (λ_ _ _ _ n=>n)
   (λb f t e=>⟨f,k b f t e⟩) (λ_ _ e=>e) (λ_ _ _ e=>e) (λb ps e=>⟨#[],by rw[e];simp⟩) (λm hm=>?_) (λb u eb=>?_) O.bare
  .obtain⟨f,U,V,ho,r⟩:=hm;exact⟨f,U,V,k _ f (λw=>B.2.1 (AE.mp w).symm) ho,r⟩
  .have nf:∀b u,H' b=some u->b∉[l.heap.objs.size]:=λb u e w=>by rw[AE.mp w,B.1]at e;cases e
   refine(O.hok b u eb).stay (λc v t q=>k c v ?_ q) (λ_ q=>q) λ_ _ q=>q;rcases t with z | z
   .rw[z];exact nf b u eb
   .exact nf c _ z
end
theorem Ww(E:X.calm=true):J8 X (.builtin "any") (λxs H Q=>∃(p:A3) (bs:A0 Bool),xs = [.ref p]/\II X.K H p (bs.map V.bl)/\Q (.bl (bs.any id)) H):=by
 intro B s σ H xs M Q I r h;obtain⟨p,bs,rfl,F,q⟩:=h;obtain⟨u,rfl,t⟩:=Y3 r;cases t;obtain⟨a,w,x,N⟩:=I.list F;refine call_any_walk (FJ x.isList ?_);have y:p≠s.heap.objs.size:=by
  obtain⟨o,n,e,_⟩:=x;exact BA (AG e)
 refine⟨s.heap.objs.size,_,_,_,_,_,λi=>bs.getD i false,rfl,Walks.list (A:=X.A.in1) (show X.A.in1.handled=none from I.ok.hd E) _ p y a.toArray,⟨⟨_,AW _ rfl,rfl,rfl⟩,?_⟩,λi v O P R G J=>?_,λS T k=>?_⟩
 .obtain⟨o,n,e,c,d,L⟩:=x;exact⟨o,AC _ e,c,n,L⟩
 .have f:(bs.map V.bl)[i]?=some (V.bl (bs.getD i false))/\RelV (V.bl (bs.getD i false)) v:=by
   have g:a[i]?=some v:=by simpa using G
   have j:i<a.length:=(AK.mp g).1;have m:=w.length;rw[AB]at m;have e:(bs.map V.bl)[i]?=some (V.bl (bs.getD i false)):=by
    rw[AH,AF (by lia)];simp[CA,AF (show i<bs.length by lia)]
   obtain⟨u,C,t⟩:=w.get e;rw[g]at C;cases C;exact⟨e,t⟩
  cases f.2;exact C_ J
 .have m:=w.length;rw[AB]at m;have e:(List.range a.toArray.size).any (λi=>bs.getD i false)=bs.any id:=by
   rw[AR,<-m,GC,GU,GU];constructor
   .rintro⟨i,j,z⟩;have l:=DC.mp j;refine⟨bs[i],DD l,?_⟩;simpa [CA,AF l] using z
   .rintro⟨b,f,z⟩;obtain⟨i,j,rfl⟩:=EA.mp f;refine⟨i,DC.mpr j,?_⟩;simpa [CA,AF j] using z
  rw[e];exact⟨.bl (bs.any id),H,I.kept λb o D=>k b o (by
   intro f;have:b=s.heap.objs.size:=by simpa using f
   exact absurd (AG D) (by rw[this];exact DA _)) (AC _ D),rfl,q⟩
theorem zDw:bootBuiltins "any" = some (.builtin "any"):=by decide +kernel
variable(K:VA)
theorem zCi(a:X.calm=true:=by rfl)(b:X.K=K:=by rfl):J8 X (.builtin "any") (λxs H Q=>∃(p:A3) (bs:A0 Bool),xs = [.ref p]/\II K H p (bs.map V.bl)/\Q (.bl (bs.any id)) H):=by subst b;exact Ww a
def Y0(kvs more:A0 (IS×V)):A0 (IS×V):=more.foldl (λa b=>Bd a b.1 b.2) kvs
def KV.mrg:∀{more:A0 (IS×V)} {a:A0 (IS×A2)} {kvs:A0 (IS×V)} {vs:A0 (IS×A2)},KV kvs vs->KV more a->KV (Y0 kvs more) (merged vs a)
 | [],[],_,_,r,_=>r
 | [],_::_,_,_,_,b=>by cases b
 | _::_,[],_,_,_,b=>by cases b
 | (k,y)::m,(c,u)::n,kvs,vs,r,b=>by
  cases b with
  | cons h t =>
   obtain⟨e,d⟩:=h;have e:k=c:=e;subst e;show KV (Y0 (Bd kvs k y) m) (merged (stored vs k u) n);exact KV.mrg (r.put k d) t
def T8(kvs more:A0 (IS×V)):(Y0 kvs more).length<=kvs.length+more.length:=by
 induction more generalizing kvs with
 | nil=>exact VD _
 | cons a r b =>
  have c:=b (Bd kvs a.1 a.2);have d:=V4 kvs a.1 a.2;show(Y0 (Bd kvs a.1 a.2) r).length<=kvs.length +(r.length+1);lia
theorem Ro:J8 X (.type "dict") (λxs H Q=>∃p kvs,xs = [.ref p]/\H p=some (.dK kvs)/\∀l,H l=none->Q (.ref l) (H_ H l (.dK kvs))):=by
 intro d s σ H xs m Q I r h;obtain⟨p,kvs,rfl,f,q⟩:=h;obtain⟨u,rfl,g⟩:=Y3 r;cases g;obtain⟨z,i,n,a,j⟩:=Uq I.hok f;refine kt_call_dict i j (by rw[<-a.length];exact z) λt c k=>?_;refine⟨.ref s.heap.objs.size,H_ H s.heap.objs.size (.dK kvs),I.laid (t':=s.toks) (λb o e=>?_) (VD _) (Mu z (beq_eq_false_iff_ne.mpr (GT I.big)) a c),rfl,q _ I.fresh⟩;rw[k.2 b (BA (AG e))];exact AC _ e
theorem zGf{b:A0 (A3×Obj)}{σ:St}{H:Hp}{s:A4}{a o:A3}{kvs more:A0 (IS×V)}{A:IE}{E:A2->A4->Prop}{Q:A2->A4->Prop}(I:Inv X b σ H s)(i:H a=some (.dK kvs))(n:H o=some (.dK more))(p:a≠o)(j:kvs.length+more.length<=sizeLine)
  (h:∀k,Inv X b σ (H_ H a (.dK (Y0 kvs more))) k->Q .none k):wpAny (model X.prog X.w) A (call (.builtin "dict.update") [.ref a,.ref o]) Q E s:=by
 obtain⟨z,r,t,d,l⟩:=Uq I.hok i;obtain⟨B,e,f,c,g⟩:=Uq I.hok n;refine call_meetsIn PySem.F.slot_dict_update l.typeIs PySem.F.entry_dict_update (PySem.F.args_dict_update_2 _ _) (meets_dict_update (C8 X.prog X.w) a o p e) ⟨t,f,l,g,by rw[<-d.length,<-c.length];exact j,λu m _ v=>?_⟩;have x:∃q,u.get? a=some q:=let⟨q,_,_,y,_⟩:=m;⟨q,y⟩;exact h _ (Qp I (t':=s.toks) (by rw[i];exact VC) v x (Mu (VE (T8 ..) j) r (d.mrg c) m))
def zGb(f ty:TE):TE:=λσ H Q=>f σ H λx e=>∃a,x = .ref a/\IsD e a/\ty σ e λy d=>∃o c b,y = .ref o/\d a=some (.dK c)/\d o=some (.dK b)/\a≠o/\c.length+b.length<=sizeLine/\Q .non (H_ d a (.dK (Y0 c b)))
theorem Jy{o e:IG}{b c:Pos}{g ty:TE}(k:PE X o g)(l:PE X e ty)(m:M1 X o "update" b e c):PE X (.Call (.Attribute o "update" b) [e] [] c) (zGb g ty):=by
 intro f s σ H Q I h;refine wpAny_Call_method m.base m.few m.line PySem.F.plainAttrs_dict PySem.F.slot_dict_update PySem.F.type_dict_update (JB (k f s σ H _ I h) λu n ⟨x,p,i,q,a,r,d,t⟩=>?_);subst r;obtain rfl:u=Value.ref a:=q;obtain⟨v,w,_⟩:=Ya i d;refine⟨v,w,?_⟩;rw[m.trees];refine Calls.callWith_builtin rfl (Calls.evalArgs_plain (Calls.spliced_cons (JB (l f n σ p _ i t) λz O ⟨y,P,A,B,C,D,j,E,G,J,K,L,M⟩=>Calls.spliced_nil ?_)));subst E;obtain rfl:z=Value.ref C:=B;exact zGf A G J K L λR N=>⟨.non,_,N,rfl,M⟩
theorem Jm:bootBuiltins "dict" = some (.type "dict"):=by decide +kernel
def Lu:entryFor table "dict.update.loop" = some Builtin.«dict.update.loop»:=entryFor_of_tree (by kernel_rfl)
def Bh:plainId "dict.update.loop" = true:=by decide +kernel
section
variable{prog:HX}{w:HZ}{A:IE}{E:A2->A4->Prop}{s:A4}
theorem Fh{a:A3}{xs:HW A2}{k:Nat}{l:HW (A5 A2)}{name:Str}{Q:A5 A2->A4->Prop}
  (m:s.heap.get? a=some { cls:=.type "list",dict:=none,data:=.seq xs k,slots:=l }) (c:typeLookup (.type "list") name=pure none) (f:(["__module__","__name__","__qualname__","__doc__","__annotations__"]:A0 Str).contains name=false) (q:A.handled=none)
  (h:∀h' n,(∀b o,s.heap.get? b=some o->h'.get? b=some o)->Q none { s with heap:=h',toks:=n }) (hsz:name.length+100<=sizeLine) :
  wpAny (model prog w) A (getAttr? (.ref a) name) Q E s:=by
 obtain⟨r,g,d,n,os⟩:=s;have p:∀i,(⟨r,g,d,i,os⟩:A4).TypeIs (.ref a) "list":=λ_=>⟨_,m,rfl⟩;have t:=sub_AttributeError;have u:=F.slot_list_getattribute.lookup;have v:=F.slot_list_getattribute.bind (.ref a);have x:=am_list_getattr_none;unfold getAttr? getAttrBy? getAttrBy
 repeat (any_goals (first | assumption | exact p _ | ((with_reducible show wpAny _ _ (call (Value.builtin "list.__getattribute__") _ _) _ _ _);refine call_meets F.slot_list_getattribute (p _) am_entry_list_getattribute (F.args_list_getattribute_2 _ _) (meets_getattribute_miss_list a xs k l name _ c f hsz) ⟨m,q,λh' i e j=>?_⟩) | wp_step))
 obtain⟨y,z,B⟩:=j.there;show wpAny _ _ (getattributeRaised _ _ _ _ _ _ _) _ _ _;unfold getattributeRaised
 repeat (any_goals (first | assumption | wp_step))
 exact h _ _ j.keeps
end
section
variable{prog:HX}{w:HZ}{A:IE}{R:Result->A4->Prop}{I:A3}{fp wr:A0 A3}{G:HW GenState->HW GenState->Prop}{n:Nat}{P:Nat->A2->Prop}{St:Nat->A4->Prop}{K:Type}[DecidableEq K]{knd:KeyKind prog w K}
theorem Sz(W:WalksS prog w A.in1 I fp wr G n P St)(D:A3)(p:D∉fp)(Z:IC)(more:A0 (K×A2))(hn:more.length=n)
  (x:∀i v,P i v->∃t o k c u m,v = .ref t/\t∉D::wr/\Z.get? t=some o/\o.cls = .type "tuple"/\o.data = .seq #[c,u] m/\more[i]?=some (k,u)/\knd.is k c=true) :
  ∀(k i:Nat) (s:A4) (kvs:A0 (K×A2)) (M:Tok),n-i=k->i<=n->St i s->(∀b o,b∉D::wr->Z.get? b=some o->s.heap.get? b=some o)->s.heap.DictOf knd D kvs->kvs.length+k<=sizeLine ->
   (∀f,Moved (D::wr) G s f->f.heap.DictOf knd D (merged kvs (more.drop i))->R (.ok (.ret .none)) f) ->
   codeAny (model prog w) A (.builtin "dict.update.loop" ⟨[.ref D,.ref I,.int (i:Int) M,.none],[]⟩) R s:=by
 have y:D∉wr:=λh=>p (W.sub _ h);have a:∀b∈wr,b∈D::wr:=λb d=>AL _ d;have B:∀{h N:IC} {kvs:A0 (K×A2)},h.DictOf knd D kvs->(∀o,h.get? D=some o->N.get? D=some o)->N.DictOf knd D kvs:=λ⟨o,es,ep,ho,r⟩ k=>⟨o,es,ep,k o ho,r⟩;intro k
 induction k with
 | zero =>
  intro i s kvs M hk hi g O Q _ S;have U:i=n:=by lia
  subst U;refine DI Lu ?_;rw[Around.under_plainId Bh _];refine AA (W.done s _ _ g λf j=>?_);have q:=S f (j.mono a);rw[<-hn,HU]at q;show wpAny _ _ (Builtin.Dict.addKeywords D [] >>= _) _ _ _;exact AA (AD (AD (q (B Q λo=>j.heap D o y))))
 | succ k ih =>
  intro i s kvs M hk hi g O Q hz S;refine DI Lu ?_;rw[Around.under_plainId Bh _];refine AA (W.item i s _ _ (by lia) g λv f hP C j=>?_);obtain⟨t,o,kk,c,u,m,rfl,E,ht,hc,V,hx,F⟩:=x i v hP;have H:f.heap.get? t=some o:=j.heap t o (λz=>E (a _ z)) (O t o E ht);refine AA (BP (AA (wpAny_tryCatch ?_)));unfold Builtin.Dict.pairItems;refine AA (EY (T := "tuple") ⟨o,H,hc⟩ ?_);rw[AN (by decide)];refine AA (DZ H V (AD ?_));show wpAny _ _ (holding [c,u] (dictSet D c u)) _ _ _;refine BP (wpAny_dictSet_pairs F (B Q λo=>j.heap D o y) (λN d' l=>?_) (by lia));refine AD ⟨plainId_quiet Bh _,ih (i+1) _ (stored kvs kk u) _ (by lia) (by lia) (W.frame _ f _ _ C (DM _) λb d o e=>?_) (λb o d e=>?_) d' (by
   have:=stored_length_le kvs kk u;lia) λX J L=>?_⟩
  .rw[l.2 b (λh:b=D=>p (by rw[<-h];exact d))];exact e
  .rw[l.2 b (λh:b=D=>d (by rw[h];exact AX))];exact j.heap b o (λz=>d (a _ z)) (O b o d e)
  .refine S X (Moved.trans W.gtrans ((j.mono a).then_heap (DM _) λb o d e=>?_) J) ?_
   .rw[l.2 b (λh:b=D=>d (by rw[h];exact AX))];exact e
   .have V:more.drop i =(kk,u)::more.drop (i+1):=by
     obtain⟨Y,ex⟩:=AK.mp hx;rw[<-ex];exact DV Y
    rw[V];exact L
end
theorem Dl:∀{as:A0 A3} {its:A0 A2},IJ (as.map V.ref) its->its=as.map Value.ref
 | [],_,.nil=>rfl
 | _::_,_,.cons r t=>by rw[BM,Dl t];cases r;rfl
theorem Pk{b:A0 (A3×Obj)}{σ:St}{H:Hp}{s:A4}(I:Inv X b σ H s):∀ps:A0 (A3×IS×V),(∀q∈ps,H q.1=some (.tup [kV q.2.1,q.2.2]))->∃more:A0 (IS×A2),KV (ps.map λq=>q.2) more /\
  ∀(i:Nat) (q:A3×IS×V),ps[i]?=some q->∃(o:Obj) (a u:A2) (m:Nat),s.heap.get? q.1=some o/\o.cls = .type "tuple"/\o.data = .seq #[a,u] m/\more[i]?=some (q.2.1,u)/\(C8 X.prog X.w).is q.2.1 a=true
 | [],_=>⟨[],.nil,λi q h=>by simp at h⟩
 | p::ps,h=>by
  obtain⟨more,r,d⟩:=Pk I ps λq c=>h q (AL _ c);obtain⟨_,e,f,o,g,j,n,k⟩:=(show IU X.prog X.w H s.heap p.1 (.tup [kV p.2.1,p.2.2])from I.hok _ _ (h p (AX ..)));obtain⟨a,u,rfl,l,t⟩:=f.two;refine⟨(p.2.1,u)::more,.cons ⟨rfl,t⟩ r,λi q c=>?_⟩;cases i with
  | zero=>cases c;exact⟨o,a,u,n,g,j,by simpa using k,rfl,Hb l⟩
  | succ i=>exact d i q c
theorem Vl(hc:X.calm=true):J8 X (.type "dict") (λxs H Q=>∃(p:A3) (ps:A0 (A3×IS×V)),xs = [.ref p]/\H p=some (.lst (ps.map λq=>V.ref q.1))/\(∀q∈ps,H q.1=some (.tup [kV q.2.1,q.2.2]))/\ps.length<=1000/\∀l,H l=none->Q (.ref l) (H_ H l (.dK (Y0 [] (ps.map λq=>q.2))))):=by
 intro R s σ H xs us Q I r h;obtain⟨p,ps,rfl,hp,ht,hl,q⟩:=h;obtain⟨u,rfl,ru⟩:=Y3 r;cases ru;obtain⟨a,G,rv,g,hz⟩:=I.lst hp;have S:a =(ps.map λq=>q.1).map Value.ref:=Dl (by rw[BQ];exact rv);obtain⟨j,U,hm⟩:=Pk I ps ht;have lm:j.length=ps.length:=by rw[<-U.length,AB]
 have W:a.toArray.size=ps.length:=by rw[S];simp
 have t:p<s.heap.objs.size:=AG g;refine callType_codes (Q₁:=λx i1=>x = .ref s.heap.objs.size/\i1 ={ s with heap:=s.heap.push { cls:=.type "dict",data:=.dict #[] } }) PySem.F.kt_called_dict (PySem.F.kt_typeCall_dict_1 _) PySem.F.entry_dict_init (kt_code_dict_new _ ⟨rfl,rfl⟩) ?_;rintro x i1 ⟨rfl,rfl⟩;have c:(s.heap.push { cls:=.type "dict",data:=.dict #[] }).DictOf (C8 X.prog X.w) s.heap.objs.size []:=Heap.DictOf.new s.heap;have k:(s.heap.push { cls:=.type "dict",data:=.dict #[] }).get? p=some { cls:=.type "list",data:=.seq a.toArray G }:=AC _ g;refine⟨c.typeIs,PySem.F.args_dict_init_2 _ _,?_⟩;unfold Builtin.«dict.__init__»;refine AA ?_;unfold Builtin.Dict.selfAndRest;refine AA (wpAny_notOrdered_dict c.typeIs ?_);show wpAny _ _ (pure (s.heap.objs.size,[Value.ref p])) _ _ _;refine AD ?_;show wpAny _ _ (Builtin.Dict.updateFrom "dict.__init__" s.heap.objs.size (.ref p) [] .none) _ _ _;unfold Builtin.Dict.updateFrom;refine AA (EY (T := "list") ⟨_,k,rfl⟩ ?_);rw[AN (by decide)];have Y:X.A.in1.in1.handled=none:=I.ok.hd hc;refine AA (Fh k (am_miss_of_fast (by decide +kernel)) (by decide +kernel) Y (λn tk1 J=>?_) (by decide +kernel));refine FD rfl ?_;have y:n.DictOf (C8 X.prog X.w) s.heap.objs.size []:=let⟨o,K,L,g,r⟩:=c;⟨o,K,L,J _ _ g,r⟩;have B:=J _ _ k;have d:s.heap.objs.size<n.objs.size:=let⟨_,_,_,g,_⟩:=y;AG g;have C:p≠n.objs.size:=BA (Nat.lt_trans t d);refine AA (DG (AA (FJ (l:=p) (items:=a.toArray) ⟨_,B,rfl,G,rfl⟩ (AD ⟨plainId_quiet Bh _,?_⟩))));have Z:∀b o,s.heap.get? b=some o->n.get? b=some o:=λb o e=>J b o (AC _ e);refine Sz (A:=X.A.in1) (knd:=C8 X.prog X.w) ((Walks.list (A:=X.A.in1.in1) Y n.objs.size p C a.toArray).toS) s.heap.objs.size ?_ n j (lm.trans W.symm) (λi v E=>?_) _ 0 _ [] _ rfl (CB _) ⟨⟨_,AW _ rfl,rfl,rfl⟩,⟨_,AC _ B,rfl,G,rfl⟩⟩ (λb o _ e=>AC _ e) (let⟨o,K,L,g,r⟩:=y;⟨o,K,L,AC _ g,r⟩) ?_ λs' f M=>?_
 .simp only[AU,A_,or_false,not_or];exact⟨BA d,GT t⟩
 .have E:a.toArray[i]?=some v:=E;rw[DY,S,BQ,AH]at E;obtain⟨z,N,rfl⟩:=BF.mp E;obtain⟨o,O,u,m,e1,e2,e3,e4,e5⟩:=hm i z N;have D:=AG e1;refine⟨z.1,o,z.2.1,O,u,m,rfl,?_,Z _ _ e1,e2,e3,e4,e5⟩;simp only[AU,A_,or_false,not_or];exact⟨BA D,BA (Nat.lt_trans D d)⟩
 .rw[W,sizeLine_eq];simp;lia
 .obtain⟨h',g',d',tk',P⟩:=s';have eg:g'=s.gens:=f.gens;have ed:d'=s.drawn:=f.drawn;have eo:P=s.os:=f.os;subst eg;subst ed;subst eo;refine⟨rfl,.ref s.heap.objs.size,H_ H s.heap.objs.size (.dK (Y0 [] (ps.map λq=>q.2))),I.laid (λb o eb=>?_) (VD _) (Mu ?_ (beq_eq_false_iff_ne.mpr (GT I.big)) (KV.mrg .nil U) M),rfl,q _ I.fresh⟩
  .have D:=AG eb;refine f.heap b o ?_ (AC _ (Z b o eb));simp only[AU,A_,or_false,not_or];exact⟨BA D,BA (Nat.lt_trans D d)⟩
  .have:=T8 [] (ps.map λq=>q.2);rw[AB]at this;rw[sizeLine_eq];simp at this;lia
end
section
variable{prog:HX}{w:HZ}{A:IE}{E:A2->A4->Prop}{s:A4}
theorem Ia{g:A3}{xs:HW A2}{fp k:A0 A3}{St:Nat->IC->Prop}(W:Walks prog w A g fp k xs.size (λi v=>xs[i]?=some v) St):∀(n i:Nat) (s:A4) (Q:A0 A2->A4->Prop),St i s.heap->i+n<=xs.size ->
  (∀h' m,St (i+n) h'->(∀b o,b∉k->s.heap.get? b=some o->h'.get? b=some o)->Q ((xs.toList.drop i).take n) { s with heap:=h',toks:=m })->wpAny (model prog w) A (draw (.ref g) n) Q E s
 | 0,i,s,Q,a,_,h=>by
  show wpAny _ _ (pure []) Q E s;exact AD (by simpa using h s.heap s.toks a λb o _ e=>e)
 | n+1,i,s,Q,a,p,h=>by
  have c:i<xs.size:=by lia
  show wpAny _ _ (pyNext (.ref g) >>= _) Q E s;refine AA (W.item i s _ _ c a λv C r t d u=>?_);have x:v=xs[i]:=by
   have:xs[i]?=some v:=t;rw[EI c]at this;exact(BU this).symm
  refine AA (BP (Ia W n (i+1) _ _ d (by lia) λy j f z=>AD ?_));have B:xs.toList.drop i=xs[i]::xs.toList.drop (i+1):=by simp[DV,c]
  have q:=h y j (by rw[show i +(n+1)=i+1+n by lia];exact f) λb o l e=>z b o l (u b o l e);rw[B,List.take_succ_cons,<-x]at q;exact q
theorem Kh{l:A3}{items:HW A2}{a:A0 (Bool×(A2->Sem Unit))}{Q:Unit->A4->Prop}(q:A.handled=none)(g:s.heap.IsList l items)
  (r:a.length=items.size) (d:a.findIdx? (·.1)=none)
  (h:∀h' t,(∀b o,s.heap.get? b=some o->h'.get? b=some o)->wpAny (model prog w) A (assignInOrder (a.map (·.2)) items.toList) Q E { s with heap:=h',toks:=t }) :
  wpAny (model prog w) A (unpack (.ref l) a) Q E s:=by
 have i:l≠s.heap.objs.size:=by obtain⟨o,j,_⟩:=g;exact BA (AG j)
 have W:=Walks.list (prog:=prog) (w:=w) (A:=A) q s.heap.objs.size l i items;unfold unpack;rw[r,d];refine AA (BP ?_);unfold unpackItems;refine AA ?_;unfold notIterableAtAll;refine AA (GE g.typeIs slot_list_iter.lookup ?_);refine AD ?_;simp only[BD,CO];refine AA (BP (FJ g ?_));have k:(s.heap.push { cls:=.type "list_iterator",data:=.fields #[.ref l,.int 0 0] }).IsList l items:=by
  obtain⟨o,j,u,n,v⟩:=g;exact⟨o,AC _ j,u,n,v⟩
 refine AA (BP (Ia W items.size 0 _ _ ⟨⟨_,AW _ rfl,rfl,rfl⟩,k⟩ (by lia) λD x c y=>?_));have f:List.take items.size (List.drop 0 items.toList)=items.toList:=by
  rw[EC];exact DU (by simp)
 rw[f,AI (by simp)];refine AA (BP (W.done _ _ _ (by rw[EM]at c;exact c) λB m C=>?_));simp only[Option.isSome_none,BD,CO];refine AD (h B m λb o e=>?_);have p:b∉[s.heap.objs.size]:=λz=>absurd (AG e) (by rw[AE.mp z];exact DA _);exact C b o p (y b o p (AC _ e))
end
section
variable{X:Cx}{pos:Pos}
def zHf(K:VA)(n:Nat)(t:RF):TG:=λv σ H Q=>∃a b,v = .ref a/\II K H a b/\b.length=n/\t b σ H Q
theorem Zk{c:A0 IG}{k:Nat}{t:RF}{n:Nat}(g:X.calm=true)(h:SQ X c t)
  (i:(assignEach c X.env).length=n:=by rfl) (d:(assignEach c X.env).findIdx? (·.1)=none:=by rfl):PG X (.Tuple c k pos) (zHf X.K n t):=by
 intro b s σ H v u Q I r e;obtain⟨a,j,l,m,o,e⟩:=e;subst l;cases r;obtain⟨p,f,q,y⟩:=I.list m;rw[assign_Tuple];refine AA (EZ (Kh (I.ok.hd g) q.isList (by simp[i,<-o,f.length]) d λz w x=>?_));exact h b _ σ H j _ Q (I.kept (t':=w) x) (by simpa using f) e
variable(K:VA)
theorem pgL{a:A0 IG}{k:Nat}{t:RF}{n:Nat}(h:SQ X a t)(c:X.calm=true:=by rfl)(d:(assignEach a X.env).length=n:=by rfl)(b:(assignEach a X.env).findIdx? (·.1)=none:=by rfl)(e:X.K=K:=by rfl):PG X (.Tuple a k pos) (zHf K n t):=by subst e;exact Zk c h d b
theorem We(a:X.calm=true:=by rfl):J8 X (.type "dict") (λxs H Q=>∃(p:A3) (ps:A0 (A3×IS×V)),xs = [.ref p]/\H p=some (.lst (ps.map λq=>V.ref q.1))/\(∀q∈ps,H q.1=some (.tup [kV q.2.1,q.2.2]))/\ps.length<=1000/\∀l,H l=none->Q (.ref l) (H_ H l (.dK (Y0 [] (ps.map λq=>q.2))))):=Vl a
end
section
variable{X:Cx}(K:VA)
theorem TQ(a:X.K=K:=by rfl):RJ X (zFl K):=by subst a;exact Q_
end
section
variable{prog:HX}{w:HZ}{A:IE}{E:A2->A4->Prop}{s:A4}
theorem Vo{t b:A3}{vs g:A0 A2}{Q:A2->A4->Prop}(o:IsTup s.heap t vs.toArray)(p:IsTup s.heap b g.toArray)(q:vs = [])(h:Q (.ref b) s):wpAny (model prog w) A (binaryOp .Add (.ref t) (.ref b)) Q E s:=by
 obtain⟨⟨r,u,i,v⟩,j,k,n,l⟩:=id o;obtain⟨⟨m,e,data2,f⟩,a,c,x,d⟩:=id p;simp only at k l c d;subst k l c d;exact concat_meets ⟨_,j,rfl⟩ ⟨_,a,rfl⟩ noFill_tuple_add seq_tuple_add VN VO (PySem.F.args_tuple_add_2 _ _)
  (tuple_addW0 t b vs.toArray g.toArray n x u e v f (by simp[q])) ⟨j,a,h⟩
end
section
variable{X:Cx}(K:VA)
def zGo:R2:=λx y H Q=>∃a b c d,x = .ref a/\y = .ref b/\IV K H a c/\IV K H b d/\d≠[]/\c.length+d.length<=sizeLine /\
 (c = []->Q (.ref b) H)/\(c≠[]->∀p,H p=none->Q (.ref p) (H_ H p (.tup (c++d))))
theorem Zi(n:X.K=K:=by rfl):KM X (binaryOp .Add) (zGo K):=by
 subst n;intro d s σ H x y v u Q I e f h;obtain⟨a,b,g,o,i,j,k,l,p,q,r,t⟩:=h;by_cases c:g = []
 .subst i j c;cases e;cases f;obtain⟨w,A,B,_⟩:=I.tuple k;obtain⟨m,D,C,_⟩:=I.tuple l;exact Vo B C (A.nil_iff.mpr rfl) ⟨.ref b,H,I,rfl,r rfl⟩
 .exact zBe _ _ _ _ _ _ _ _ _ I e f ⟨a,b,g,o,i,j,k,l,c,q,λz=>absurd z p,λ_=>t c⟩
end
def XO(x C:A3)(d:A5 A3):HO:=.ext λh=>∃o a,h.get? x=some o/\o.cls = .ref C/\o.dict=d/\o.data = .fields a
def XO.ok{P:HX}{w:HZ}{H:Hp}{h:IC}{x C:A3}{d:A5 A3}{o:Obj}{vs:HW A2}(e:h.get? x=some o)(a:o.cls = .ref C)(b:o.dict=d)(c:o.data = .fields vs):IU P w H h x (XO x C d) :=
 ⟨⟨o,vs,e,a,b,c⟩,⟨o,e⟩,λf g ⟨o,vs,e,r⟩ k=>⟨o,vs,k o e,r⟩⟩
def Fl(H:Hp)(n:Nat)(x:A3)(h:IC):Prop :=
 ∃o a,h.get? x=some o/\o.data = .fields a/\1<a.size/\(a[1]?=some .none\/∃T b ts,a[1]?=some (.ref T)/\T≠x/\n<=T/\H T=none/\h.get? T=some b/\b.data = .fields ts/\3<ts.size)
structure RX(P:HX)(w:HZ)(base:IC)(fs:A0 QY)(env:QY)(outer:A0 QY)(H0:Hp)(s0:A4)(x C:A3)(d:A5 A3)(H:Hp)(s:A4):Prop where
 os:s.os=s0.os
 bare:AllBare s.gens
 un:Un (OB fs) [] H0 H s0.heap s.heap
 hok:M_ P w H s.heap
 bsz:base.objs.size<=s0.heap.objs.size
 bs:∀b o,base.get? b=some o->s.heap.get? b=some o/\H b=none
 funs:s.heap.FunFrames base (env::outer)
 frf:∀b∈OB (env::outer),H b=none
 loc:∃L,env.frame=some L
 old:∀b o,s0.heap.get? b=some o->b∉OB fs->b∉OB (env::outer)
 sub:∀b∈OB fs,b∈OB (env::outer)
 hx:H x=some (XO x C d)
 nx:s0.heap.objs.size<=x
 fl:Fl H s0.heap.objs.size x s.heap
section
variable{P:HX}{w:HZ}{base:IC}{env:QY}{fs outer:A0 QY}{H0 H:Hp}{s0 s:A4}{x C:A3}{d:A5 A3}{h':IC}
theorem RX.chg(r:RX P w base fs env outer H0 s0 x C d H s){TT:A0 A3}(tt:∀T∈TT,H T=none/\s0.heap.objs.size<=T/\∃o ts,s.heap.get? T=some o/\o.data = .fields ts)
  (a:∀b o,b≠x->b∉TT->b∉OB (env::outer)->s.heap.get? b=some o->h'.get? b=some o)
  (f:∀b o,b∈OB (env::outer)->s.heap.get? b=some o->∃B,h'.get? b=some { o with slots:=B })
  (N:∀T∈TT,∃o,h'.get? T=some o) (D:∀o,s.heap.get? x=some o->∃vs,h'.get? x=some { o with data:=.fields vs }) (O:Fl H s0.heap.objs.size x h') :
  RX P w base fs env outer H0 s0 x C d H { s with heap:=h' }:=by
 obtain⟨Q,V,L,E,F,G⟩:∃o vs,s.heap.get? x=some o/\o.cls = .ref C/\o.dict=d/\o.data = .fields vs:=(r.hok x _ r.hx).1;obtain⟨R,l⟩:=D Q L;have S:∀b,b∈OB (env::outer)->b≠x:=λb g z=>by
  have:=r.frf b g;rw[z,r.hx]at this;cases this
 have U:∀b,b∈OB (env::outer)->b∉TT:=λb g z=>by
  obtain⟨_,o,I,i⟩:=r.funs.mem g;obtain⟨_,_,m,ts,h,j⟩:=tt b z;rw[I]at h;cases h;exact i ts j
 have p:∀b o,s0.heap.get? b=some o->b≠x/\b∉TT:=λb o e=>⟨λz=>absurd (AG e) (by rw[z];exact Nat.not_lt.mpr r.nx),λz=>absurd (AG e) (Nat.not_lt.mpr (tt b z).2.1)⟩;have k:∀b o,s.heap.get? b=some o->∃m,h'.get? b=some m:=λb o e=>by
  by_cases t:b=x
  .rw[t];exact⟨_,l⟩
  by_cases v:b∈TT
  .exact N b v
  by_cases y:b∈OB (env::outer)
  .obtain⟨B,q⟩:=f b o y e;exact⟨_,q⟩
  .exact⟨_,a b o t v y e⟩
 have SE:∀b u,H b=some u->b≠x->∀o,s.heap.get? b=some o->h'.get? b=some o:=λb u e c o I =>
  a b o c (λz=>by rw[(tt b z).1]at e;cases e) (λz=>by rw[r.frf b z]at e;cases e) I
 refine⟨r.os,r.bare,⟨λb o e n g A=>?_,λb o e n g A=>?_,r.un.free,λb o e A=>?_,r.un.tups,r.un.frzs,r.un.tbls⟩,λb u e=>?_,r.bsz,λb o e=>?_,?_,r.frf,r.loc,r.old,r.sub,r.hx,r.nx,O⟩
 .exact a b o (p b o e).1 (p b o e).2 (r.old b o e g) (r.un.keep b o e n g A)
 .obtain⟨B,q⟩:=r.un.slot b o e n g A;obtain⟨J,K⟩:=f b _ (r.sub b g) q;exact⟨J,K⟩
 .obtain⟨m,q⟩:=r.un.there b o e A;exact k b m q
 .by_cases c:b=x
  .subst c;rw[r.hx]at e;cases e;exact XO.ok l E F rfl
  .refine(r.hok b u e).stay (λM o g q=>?_) (λ_ q=>q) λ_ _ q=>q;rcases g with z | z
   .subst z;exact SE M u e c o q
   .refine SE M _ z (λK=>?_) o q;rw[K,r.hx]at z;cases z
 .refine⟨a b o (λz=>?_) (λz=>?_) (λz=>?_) (r.bs b o e).1,(r.bs b o e).2⟩
  .have:=(r.bs b o e).2;rw[z,r.hx]at this;cases this
  .exact absurd (AG e) (Nat.not_lt.mpr (VE r.bsz (tt b z).2.1))
  .have:=(r.funs.mem z).1;rw[e]at this;cases this
 .refine r.funs.of_keeps λb o e i=>?_;by_cases t:b=x
  .subst t;rw[L]at e;cases e;exact absurd G (i _)
  by_cases v:b∈TT
  .obtain⟨_,_,m,ts,h,j⟩:=tt b v;rw[e]at h;cases h;exact absurd j (i _)
  by_cases y:b∈OB (env::outer)
  .obtain⟨B,q⟩:=f b o y e;exact⟨_,q,rfl⟩
  .exact⟨o,a b o t v y e,rfl⟩
def Tb(H:Hp)(n:Nat)(x:A3)(h:IC):Prop :=
 ∃o a T b ts,h.get? x=some o/\o.data = .fields a/\a[1]?=some (.ref T)/\T≠x/\n<=T/\H T=none/\h.get? T=some b/\b.data = .fields ts/\3<ts.size
theorem Tb.fl{H:Hp}{n:Nat}{x:A3}{h:IC}(t:Tb H n x h):Fl H n x h:=by
 obtain⟨o,b,T,c,ts,e,d,a,r⟩:=t;exact⟨o,b,e,d,(CV.mp a).1,.inr ⟨T,c,ts,a,r⟩⟩
theorem zIx{o:Obj}{vs:HW A2}(f:HW A2->HW A2)(e:o.data = .fields vs):Obj.mapFields f o ={ o with data:=.fields (f vs) }:=by
 obtain⟨a,b,c,d⟩:=o;have e:c = .fields vs:=e;subst e;rfl
section
variable{M:Model}{A:IE}{E:A2->A4->Prop}{Q:Unit->A4->Prop}
theorem RX.entry(r:RX P w base fs env outer H0 s0 x C d H s)(n:A.frames=some (env::outer)){L:A3}(B:env.frame=some L){e:A2}{f:Bool}
  (h:∀h',RX P w base fs env outer H0 s0 x C d H { s with heap:=h' }->Tb H s0.heap.objs.size x h'->Q () { s with heap:=h' }) :
  wpAny M A (do let a <-frameOf env;let pl <-entryPlaceOf L f;let b <-EntryCells.newEntry e a .none (rawInt L) .none pl;setField (.ref x) 1 b) Q E s:=by
 obtain⟨o,J,c,p,g,_⟩:=id r.fl;have i:∀b,b∈OB (env::outer)->b≠x:=λb j z=>by
  have:=r.frf b j;rw[z,r.hx]at this;cases this
 refine AA (wpAny_frameOf_fun n r.funs B λq0 m₁=>?_);refine AA (wpAny_entryPlaceOf λpl t=>?_);unfold EntryCells.newEntry newFields;refine AA (BV ?_ (t.sizeOk5 _ _ _ _ _));have r3:q0.get? x=some o:=(m₁.2.1 x λD=>i x D rfl).trans c;have k:3 <([e,Value.ref L,.none,rawInt L,.none] ++(if pl.isEmpty then List.replicate 6 Value.none else pl)).toArray.size:=by
  simp only[AR,AV,BR,List.length_nil];lia
 generalize ([e,Value.ref L,.none,rawInt L,.none] ++(if pl.isEmpty then List.replicate 6 Value.none else pl)).toArray=ts at k;have c₂:=AC (h:=q0) { cls:=.type "traceback",dict:=none,data:=.fields ts } r3;have l:q0.objs.size≠x:=GT (AG r3);have F₃:=(BH (q0.push { cls:=.type "traceback",dict:=none,data:=.fields ts }) (Obj.mapFields (·.setIfInBounds 1 (Value.ref q0.objs.size))) (Ne.symm l)).trans (AW q0 rfl);have c₃:=BZ (Obj.mapFields (·.setIfInBounds 1 (Value.ref q0.objs.size))) c₂ (Obj.isFreed_of_fields (Obj.data_mapFields p _));rw[zIx _ p]at c₃;have y:Tb H s0.heap.objs.size x ((q0.push { cls:=.type "traceback",dict:=none,data:=.fields ts }).update x (Obj.mapFields (·.setIfInBounds 1 (Value.ref q0.objs.size)))) :=
  ⟨_,_,q0.objs.size,_,ts,c₃,rfl,by simp[g],l,VE r.nx (DR (AG r3)),r.hok.fresh (by rw[m₁.1];exact VD _),F₃,rfl,k⟩
 refine ED c₂ p g (h _ (r.chg (TT:=[]) (λ_ z=>nomatch z) (λb u j _ v q=>?_) (λb u j q=>?_) (λ_ z=>nomatch z) (λu q=>?_) y.fl) y)
 .rw[BH _ _ (Ne.symm j)];exact AC _ ((m₁.2.1 b v).trans q)
 .obtain⟨G,I⟩:=m₁.2.2 b u q;refine⟨G,?_⟩;rw[BH _ _ (Ne.symm (i b j))];exact AC _ I
 .rw[c]at q;cases q;exact⟨_,c₃⟩
theorem RX.setT(r:RX P w base fs env outer H0 s0 x C d H s){o k:Obj}{vs ts:HW A2}{T:A3}{v:A2}(l:s.heap.get? x=some o)(m:o.data = .fields vs)(h1:vs[1]?=some (.ref T))(n:T≠x)(p:s0.heap.objs.size<=T)(t:H T=none)(e:s.heap.get? T=some k)(a:k.data = .fields ts)(u:3<ts.size)
  (h:∀h',RX P w base fs env outer H0 s0 x C d H { s with heap:=h' }->Tb H s0.heap.objs.size x h'->Q () { s with heap:=h' }):wpAny M A (setField (.ref T) 3 v) Q E s:=by
 have c:=(BH s.heap (Obj.mapFields (·.setIfInBounds 3 v)) n).trans l;have f:=BZ (Obj.mapFields (·.setIfInBounds 3 v)) e (Obj.isFreed_of_fields (Obj.data_mapFields a _));have y:Tb H s0.heap.objs.size x (s.heap.update T (Obj.mapFields (·.setIfInBounds 3 v))):=⟨o,vs,T,_,_,c,m,h1,n,p,t,f,Obj.data_mapFields a _,by simpa using u⟩;refine ED e a u (h _ (r.chg (TT:=[T]) (λb z=>?_) (λb g B i _ q=>?_) (λb g B q=>?_) (λb z=>?_) (λg q=>?_) y.fl) y)
 .rw[AE.mp z];exact⟨t,p,_,_,e,a⟩
 .rw[BH _ _ (λz=>i (by rw[z];exact AE.mpr rfl))];exact q
 .refine⟨g.slots,?_⟩;rw[BH _ _ (λz=>by
   obtain⟨_,F,D,j⟩:=r.funs.mem B;rw[<-z,e]at D;cases D;exact j _ a)]
  exact q
 .rw[AE.mp z];exact⟨_,f⟩
 .rw[l]at q;cases q;exact⟨vs,by rw[c,<-m]⟩
theorem RX.note(r:RX P w base fs env outer H0 s0 x C d H s)(b:A.frames=some (env::outer))
  (h:∀h',RX P w base fs env outer H0 s0 x C d H { s with heap:=h' }->Tb H s0.heap.objs.size x h'->Q () { s with heap:=h' }):wpAny M A (noteFrame (.ref x) env) Q E s:=by
 obtain⟨L,j⟩:=r.loc;obtain⟨o,p,g,i,q,c⟩:=id r.fl;unfold noteFrame;simp only[j];rcases c with f | ⟨T,t,ts,f,l,m,n,e,a,k⟩
 .refine AA (CC g i f ?_);rw[AI (by decide)];exact r.entry b j h
 .refine AA (CC g i f ?_);rw[AN (show(Value.ref T != Value.none)=true from by simp)];refine AA (CC e a (EI k) ?_);split
  .exact AD (h s.heap r ⟨o,p,T,t,ts,g,i,f,l,m,n,e,a,k⟩)
  .refine AA (r.setT g i f l m n e a k λh' u _=>?_);exact u.entry b j h
theorem RX.flight(r:RX P w base fs env outer H0 s0 x C d H s){i:A5 A3}
  (h:∀h',RX P w base fs env outer H0 s0 x C d H { s with heap:=h' }->(Tb H s0.heap.objs.size x s.heap->Tb H s0.heap.objs.size x h')->Q () { s with heap:=h' }):wpAny M A (setFlight (.ref x) i) Q E s:=by
 obtain⟨o,t,b,f,j,c⟩:=id r.fl;unfold setFlight;rcases c with a | ⟨T,u,ts,a,k,l,m,e,g,n⟩
 .refine AA (CC b f a ?_);rw[AI (by decide)];exact AD (h s.heap r id)
 .refine AA (CC b f a ?_);rw[AN (show(Value.ref T != Value.none)=true from by simp)];exact r.setT b f a k l m e g n λh' p q=>h h' p λ_=>q
end
end
def SA(P:HX)(w:HZ):QZ:=λa H s E e b =>
 ∃x C d c,e = .ref x/\b.os=s.os/\AllBare b.gens/\Un (OB a) [] H c s.heap b.heap/\M_ P w c b.heap/\c x=some (XO x C d)/\s.heap.objs.size<=x/\Tb c s.heap.objs.size x b.heap/\E (.ref C) d c
structure XC(K:VA)(C:A3)(bm:A0 A2):Prop where
 obj:∃nm q N bs hdct sn sub ab col dd k0 k1 k2 k3 k5,K.lookup C=some (excClassObj nm q C N bs bm hdct sn sub ab col dd k0 k1 k2 k3 k5 "ValueError.__new__")
 tail:PySem.W.tailIn K [.type "ValueError",.type "Exception",.type "BaseException",.type "object"] bm=true
 kp:PySem.W.keepIn K (.ref C)=true
 sa:PySem.W.findIn K (.ref C) "__setattr__" = some (some (.builtin "object.__setattr__"))
 hd:PySem.W.hasDictIn K C=true
def XC.base{K:VA}{C:A3}{a:A0 A2}(c:XC K C a){h:IC}(X:K.In h):a.contains (.type "BaseException")=true:=(PySem.W.tail_of_in X c.tail).hasType rfl
def PEx(X:Cx)(e:IG)(t:XK->TE):Prop:=∀(a:A0 (A3×Obj)) (s:A4) (σ:St) (H:Hp) (Q:VK) (E:XK),Inv X a σ H s->t E σ H Q ->
 wpAny (model X.prog X.w) X.A (eval e X.env) (EP X a σ Q) (λd f=>∃b c,Inv X a σ c b/\SA X.prog X.w X.stack c b E d f) s
section
variable{X:Cx}{pins:A0 (A3×Obj)}{σ:St}{H:Hp}{s:A4}
theorem w5{M:Model}{A:IE}{E:A2->A4->Prop}{i:Nat}{x:Str}{B:Pos}{Q:Unit->A4->Prop}(I:Inv X pins σ H s)(P:X.N.Nodup)(hi:X.N[i]?=some x)(f:X.env.scope.names.lookup x=some .local)
  (h:∀G,Inv X pins (σ.set i none) H G->Q () G):wpAny M A (do bindName X.env x .none;unbindBehindTheSuite X.env x B) Q E s:=by
 obtain⟨m,J,R⟩:=id I.loc;have t:(X.env.scope.kind == .class||(X.env.scope.kind == .module&&X.env.locals != X.env.globals))=false:=by rw[I.ok.kind];rfl
 have u:=I.cne;refine wpAny_nameGoes_keeps f J t λS v C g=>?_;obtain⟨oL,_,_,T,_⟩:=id J;have D:∀b o,X.s₀.heap.get? b=some o->b≠X.env.locals:=λb o e=>BA (BI (AG e) I.ok.above);have a:M_ X.prog X.w H S:=λb U e=>by
  refine(I.hok b U e).stay (λc K hc q=>(g.2 c ?_).trans q) (λ_ q=>q) λ_ _ q=>q;rintro rfl;rcases hc with rfl | hc
  .rw[I.free]at e;cases e
  .rw[I.free]at hc;cases hc
 refine h _ ⟨I.ok,I.os,I.bare,⟨λb o e n F f=>?_,λb o e n F f=>?_,I.base.free,λb o e f=>?_,I.base.tups,I.base.frzs,I.base.tbls⟩,⟨_,C,λj y V l r W=>?_⟩,λy c e=>?_,I.free,I.freeC,λp Y=>?_,a,by simpa using I.len⟩
 .exact(g.2 b (D b o e)).trans (I.base.keep b o e n F f)
 .obtain⟨Z,l⟩:=I.base.slot b o e n F f;exact⟨Z,(g.2 b (D b o e)).trans l⟩
 .obtain⟨o',l⟩:=I.base.there b o e f;exact⟨o',(g.2 b (D b o e)).trans l⟩
 .have L:j≠i:=λz=>by
   rw[z,List.getElem?_set]at r;split at r
   .split at r<;>cases r
   .rename_i q;exact q rfl
  rw[GR (Ne.symm L)]at r;obtain⟨u',r',q⟩:=R j y V l r W;refine⟨u',r',?_⟩;rcases q with⟨k,e⟩ | ⟨k,c,e,z⟩
  .refine .inl ⟨k,?_⟩;have:y≠x:=λe=>L (Fk P l (e▸hi));simp[this,e]
  .exact .inr ⟨k,c,e,z.sameBut g (u y c e)⟩
 .obtain⟨K,z⟩:=I.cell y c e;exact⟨K,z.sameBut g (u y c e)⟩
 .obtain⟨e,n,O,nf,d⟩:=I.pin p Y;exact⟨(g.2 p.1 O).trans e,n,O,nf,d⟩
end
section
variable{M:Model}{A:IE}{E:A2->A4->Prop}{h:IC}{g:HW GenState}{dn:Drawn}{tk:Nat}{os:OsState}
variable{nm q nm' q':Str}{C N S N':A3}{bs bm bs' bm':A0 A2}{hdct hdct':Bool}{sn sn':A0 Str}{sub sub':A0 A2}{ab ab':Bool}{col col':A5 Bool}{dd dd':A5 A3}{k0 k1 k2 k3 k5 j0 j1 j2 j3 j5:A5 A2}{newId newId':String}
theorem zIw{e:A3}{c:Obj}{Q:Bool->A4->Prop}(d:h.get? C=some (excClassObj nm q C N bs bm hdct sn sub ab col dd k0 k1 k2 k3 k5 newId))(i:h.get? S=some (excClassObj nm' q' S N' bs' bm' hdct' sn' sub' ab' col' dd' j0 j1 j2 j3 j5 newId'))(j:h.get? e=some c)(a:c.cls = .ref C)
  (k:bm'.contains (.type "BaseException")=true) (l:(Value.ref C::bm).contains (.ref S)=true) (m:Q true ⟨h,g,dn,tk,os⟩):wpAny M A (excMatches (.ref e) (.ref S)) Q E ⟨h,g,dn,tk,os⟩:=by
 have b:(Value.ref S::bm').contains (.type "BaseException")=true:=by rw[List.contains_cons,k,Bool.or_true]
 have f:=tc_notTuple;unfold excMatches
 repeat (first | (with_reducible refine wpAny_loadPart_at j ?_;rw[a]) | with_reducible refine wpAny_loadPart_at i ?_ | with_reducible refine wpAny_loadPart_at d ?_ | (with_reducible refine wpAny_isSubtype_exc i ?_;rw[b]) | (with_reducible refine wpAny_isSubtype_exc d ?_;rw[l]) | wp_step)
 exact m
end
abbrev Xm(X:Cx)(a:A2):Cx:={ X with A:=X.A.mark (some a),calm:=false }
section
variable{X:Cx}{pins:A0 (A3×Obj)}{σ:St}{H:Hp}{s:A4}{ev:A2}
theorem Inv.mark(I:Inv X pins σ H s)(ev:A2):Inv (Xm X ev) pins σ H s :=
 ⟨⟨I.ok.mod,I.ok.kind,I.ok.glob,I.ok.blt,I.ok.above,I.ok.inj,I.ok.has,I.ok.cab,λz=>absurd z (by simp),I.ok.frames,I.ok.stk,I.ok.exf,I.ok.bs,I.ok.bsz,I.ok.noex,I.ok.exfs,I.ok.funs,I.ok.frf⟩,I.os,I.bare,I.base,I.loc,I.cell,I.free,I.freeC,I.pin,I.hok,I.len⟩
theorem Inv.unmark(a:X.Ok)(I:Inv (Xm X ev) pins σ H s):Inv X pins σ H s:=⟨a,I.os,I.bare,I.base,I.loc,I.cell,I.free,I.freeC,I.pin,I.hok,I.len⟩
end
def Dh(i:Nat)(D:Ends):Ends:={ nx:=λσ H=>D.nx (σ.set i none) H,rt:=D.rt,bk:=λσ H=>D.bk (σ.set i none) H,ct:=λσ H=>D.ct (σ.set i none) H }
structure XG(K:VA)(C:A3):Prop where
 ga:PySem.W.findIn K (.ref C) "__getattribute__" = some (some (.builtin "BaseException.__getattribute__"))
 gn:PySem.W.findIn K (.ref C) "__getattr__" = some none
 mb:PySem.W.mroIn K C (.type "BaseException")=some true
 hd:PySem.W.hasDictIn K C=true
def NF{K:VA}{e q:Str}{C N:A3}{bs b:A0 A2}{a:Bool}{f:A0 Str}{sub:A0 A2}{g:Bool}{c:A5 Bool}{h:A5 A3}{i j m n o:A5 A2}
  (l:K.lookup C=some (excClassObj e q C N bs b a f sub g c h i j m n o "ValueError.__new__")) (t:PySem.W.tailIn K [.type "ValueError",.type "Exception",.type "BaseException",.type "object"] b=true) (k:PySem.W.keepIn K (.ref C)=true)
  (s:PySem.W.findIn K (.ref C) "__setattr__" = some (some (.builtin "object.__setattr__"))) (d:PySem.W.hasDictIn K C=true):XC K C b:=⟨⟨_,_,_,_,_,_,_,_,_,_,_,_,_,_,_,l⟩,t,k,s,d⟩
def zIs:V->A5 Int->A5 Int->Hp->VK->Prop:=λx lo a H Q=>∃z,x = .str z/\z.length<=sizeLine/\Q (.str (Txt.slice z lo a)) H
def slS{X:Cx}:RJ X zIs:=by
 intro g s σ H x v y A lo B C Q I p r w m h;obtain⟨z,rfl,b,q⟩:=h;obtain⟨t,rfl⟩:=p;refine⟨"str",_,PyProof.Rows.slot_str_getitem.lookup,typeIs_str _ _ _,?_⟩;obtain⟨o,c,d,e⟩:=r;cases w with
 | none =>
  cases m with
  | none=>exact FR (l:=none) (u:=none) (st:=none) ⟨o,c,d,e⟩ rfl (post_val_or_str ⟨VE (Txt.slice_le z _ _) b,λa k=>⟨.str (Txt.slice z _ _),H,I.tok k,⟨a,rfl⟩,q⟩⟩)
  | int j f=>exact FR (l:=none) (u:=some (j,f)) (st:=none) ⟨o,c,d,e⟩ rfl (post_val_or_str ⟨VE (Txt.slice_le z _ _) b,λa k=>⟨.str (Txt.slice z _ _),H,I.tok k,⟨a,rfl⟩,q⟩⟩)
 | int i n =>
  cases m with
  | none=>exact FR (l:=some (i,n)) (u:=none) (st:=none) ⟨o,c,d,e⟩ rfl (post_val_or_str ⟨VE (Txt.slice_le z _ _) b,λa k=>⟨.str (Txt.slice z _ _),H,I.tok k,⟨a,rfl⟩,q⟩⟩)
  | int j f=>exact FR (l:=some (i,n)) (u:=some (j,f)) (st:=none) ⟨o,c,d,e⟩ rfl (post_val_or_str ⟨VE (Txt.slice_le z _ _) b,λa k=>⟨.str (Txt.slice z _ _),H,I.tok k,⟨a,rfl⟩,q⟩⟩)
section
variable{X:Cx}{k:Nat}{f C:A3}{fd:IW}{ps:A0 Str}{sp:Sp}{x m:Str}{p pos apos:Pos}{e o:IG}{es:A0 IG}{ta:TE}{t:TA}
theorem Zv{a:A0 (A3×Obj)}{σ:St}{H:Hp}{s:A4}{Q:VK}{E:XK}{us:A0 A2}{vs:A0 V}(F:IM X.prog X.w X.K X.mg X.base (SA X.prog X.w) k f fd ps sp)(j:JV k X.A)(l:Binds X.K fd ps [])
  (I:Inv X a σ H s) (r:IJ vs us) (h:sp vs H Q E):wpAny (model X.prog X.w) X.A (call (.ref f) us) (EP X a σ Q) (λm c=>∃d g,Inv X a σ g d/\SA X.prog X.w X.stack g d E m c) s:=by
 have n:us.length=ps.length:=by rw[<-r.length];exact F.len _ _ _ _ h
 have i:=l s us I.kIn (by rw[BW];exact n);rw[BW]at i;refine wpAny_call (FK (F.run X.A X.stack s H ⟨us,[]⟩ us vs Q E j I.env0 i r h) λr c b=>?_);cases r with
 | error e=>exact⟨_,_,I,b⟩
 | ok o =>
  cases o with
  | ret u=>exact I.after b
  | next=>exact VB b
  | brk=>exact VB b
  | cont=>exact VB b
theorem Bb{pl:Sem Bool}(d:∀e s,¬X.xe e s)(y:PE X o ta)(c:QV X.K C)(j:QM X.K C m f)(F:IM X.prog X.w X.K X.mg X.base (SA X.prog X.w) k f fd ps sp)(B:JV k X.A)(D:Binds X.K fd ps [])(G:PA X (e::es) t)
  (g:starEach (e::es) X.env =(false,eval e X.env)::starEach es X.env:=by rfl) (i:(backTo pos (starEach es X.env)).any (·.1)=false:=by rfl)
  (J:eval (.Call (.Attribute o m apos) (e::es) [] pos) X.env =(do
   let n <-eval o X.env
   standAt apos.atName
   let(f,first) <-holding [n] (getMethod n m pl)
   callWith pos f first (backTo pos (starEach (e::es) X.env)) (backToKw pos (keywordEach [] X.env))):=by rfl) :
  PEx X (.Call (.Attribute o m apos) (e::es) [] pos) (λE=>zAt C m sp [] E ta t):=by
 intro b s σ H Q E I h;refine PySem.W.methodCall_KW (pl:=pl) (B_ (y b s σ H _ I h) (λu L ⟨x,M,p,N,a,S,T,O,P,l,q⟩=>?_) λ_ _ z=>(d _ _ z).elim) J;subst O;obtain rfl:u=Value.ref a:=N;refine y9 p P c j l ?_;refine PySem.W.callWith_K (first:=[.ref a]) (h₀:=X.base) I.ok.mod.kin j.kp (B_ (G pos b L σ M _ p q) (λus U ⟨vs,Y,v,r,R⟩=>⟨v.kIn,?_⟩) λ_ _ z=>(d _ _ z).elim) g i;refine Zv (us:=.ref a::us) (vs:=.ref a::vs) F B D v (.cons rfl r) ?_;rw[<-BW (V.ref a::vs)];exact R
end
def TV(X:Cx)(st:A0 IP)(t:XK->TS):Prop:=∀(a:A0 (A3×Obj)) (s:A4) (σ:St) (H:Hp) (D:Ends) (E:XK),Inv X a σ H s->t E D σ H ->
 wpAny (model X.prog X.w) X.A (execs st X.env) (SP X a D) (λd e=>∃b c,Inv X a σ c b/\SA X.prog X.w X.stack c b E d e) s
section
variable{X:Cx}{c e:IG}{pos p1:Pos}{a b:A0 IP}
theorem Qn{k:TT}{t u:XK->TS}(j:∀e s,¬X.xe e s)(p:PT X c k)(q:TV X a t)(r:TV X b u):TV X [.If c a b pos] (λE=>zHh k (t E) (u E)):=by
 intro f s σ H D E I h;refine HQ (wpAny_If (B_ (p f s σ H _ I h) (λd l ⟨m,n,o⟩=>?_) λ_ _ z=>(j _ _ z).elim));have v:∀g i,SP X f D g i->_:=λg i z=>z;cases d with
 | true =>
  refine B_ (q f l σ m D E n o) (λg w z=>?_) λx i z=>?_
  .cases g with
   | next=>exact EV z
   | brk=>exact z
   | cont=>exact z
   | ret u=>exact z
  .exact z
 | false =>
  refine B_ (r f l σ m D E n o) (λg w z=>?_) λx i z=>?_
  .cases g with
   | next=>exact EV z
   | brk=>exact z
   | cont=>exact z
   | ret u=>exact z
  .exact z
end
def zGy(K:VA)(S:A3)(i:Nat)(t:XK->TS)(c:TS):TS:=λD σ H =>
 t (λe d a=>∃C b,e = .ref C/\XC K C b/\(Value.ref C::b).contains (.ref S)=true/\∀x,a x=some (XO x C d)->c (Dh i D) (σ.set i (some (.ref x))) a) D σ H
def zAw{X:Cx}{S:A3}{T:A0 A2}{i:Nat}{n c:Str}{cp hp U:Pos}{b₀:IP}{P j:A0 IP}{t:XK->TS}{th:TS}(V:∀e s,¬X.xe e s)(st:X.stack=X.env::X.outer)(fr:X.env.frame=some X.env.locals)(E:X.N.Nodup)(hi:X.N[i]?=some n)(a:X.env.scope.names.lookup n=some .local)
  (hg:Gl X c) (hm:X.mg c=some (.ref S)) (cS:XC X.K S T) (he:TV X P t) (hh:∀ev,QK (Xm X ev) (b₀::j) th) (W:(c ==("__debug__":Str))=false:=by decide) :
  PS X (.Try P [.ExceptHandler (some (.Name c cp)) (some n) (b₀::j) hp] [] [] U) (zGy X.K S i t th):=by
 intro g s σ H D I h;refine wpAny_Try_except ?_;refine B_ (he g s σ H _ _ I h) (λfl s1 z=>?_) λev s' z=>?_
 .cases fl with
  | next=>exact EV z
  | brk=>exact z
  | cont=>exact z
  | ret u=>exact z
 obtain⟨s1,H1,F,x,C,d,G,rfl,os,k,un,J,hx,nx,P,C',bm,ec,cC,L,q⟩:=z;cases ec;have Y:Inv X g σ G s':=F.call' os un J k (λb z=>absurd z (by simp));have r:RX X.prog X.w X.base X.stack X.env X.outer H1 s1 x C d G s':=⟨os,k,un,J,VE F.ok.bsz F.sz,Y.bs,by have:=Y.stack;rw[st]at this;exact this,by have:=Y.stkFree;rw[st]at this;exact this,⟨_,fr⟩,λb o _ M=>by rw[st]at M;exact M,λb M=>by rw[st]at M;exact M,hx,nx,P.fl⟩;have Z:X.A.frames=some (X.env::X.outer):=by rw[I.ok.frames,st]
 refine r.note Z λh' r' t'=>r'.flight λh2 l _=>?_;have Q:Inv X g σ G { s' with heap:=h2 }:=F.call' l.os l.un l.hok l.bare (λb z=>absurd z (by simp));refine wpAny_handleBy_cons (codeAny_handlers_test ?_) (by intro q;cases q);refine Gd (Q.mark (.ref x)) hg hm ?_ W;obtain⟨nm,q1,N,bs,hdct,sn,sub,ab,col,dd,k0,k1,k2,k3,k5,O⟩:=cC.obj;obtain⟨nm',q1',N',bs',hdct',sn',sub',ab',col',dd',j0,j1,j2,j3,j5,m⟩:=cS.obj;obtain⟨ox,vx,ex,hcx,_⟩:∃o vs,h2.get? x=some o/\o.cls = .ref C/\o.dict=d/\o.data = .fields vs:=(l.hok x _ l.hx).1;refine zIw (Q.kIn _ _ O) (Q.kIn _ _ m) ex hcx (cS.base Q.kIn) L ?_;refine codeAny_handlers_suite_as (l.flight λh4 R _=>?_);have I4:Inv X g σ G { s' with heap:=h4 }:=F.call' R.os R.un R.hok R.bare (λb z=>absurd z (by simp));refine V7 I4 E hi (.inl a) (v:=.ref x) rfl (λs5 I5=>?_) (.inr a);refine B_ (hh (.ref x) g s5 _ G (Dh i D) (I5.mark _) (q x hx)) (λf s6 z=>?_) λ_ _ z=>(V _ _ z).elim;cases f with
 | next =>
  obtain⟨σ',H6,p,y⟩:=z;exact w5 (p.unmark I.ok) E hi a λs7 B=>⟨_,_,B,y⟩
 | brk =>
  obtain⟨σ',H6,p,y⟩:=z;exact w5 (p.unmark I.ok) E hi a λs7 B=>⟨_,_,B,y⟩
 | cont =>
  obtain⟨σ',H6,p,y⟩:=z;exact w5 (p.unmark I.ok) E hi a λs7 B=>⟨_,_,B,y⟩
 | ret u =>
  obtain⟨v,σ',H6,p,r6,y⟩:=z;exact w5 (p.unmark I.ok) E hi a λs7 B=>⟨v,_,_,B,r6,y⟩
def KV.atV{kvs:A0 (IS×V)}{vs:A0 (IS×A2)}(h:KV kvs vs):∀{i:Nat} {k:IS} {v:V},kvs[i]?=some (k,v)->∃u,vs[i]?=some (k,u)/\RelV v u:=by
 induction h with
 | nil=>intro i k v e;rw[List.getElem?_nil]at e;cases e
 | cons r _ c =>
  intro i k v e;cases i with
  | zero =>
   rw[List.getElem?_cons_zero]at e⊢;cases e;obtain⟨a,b⟩:=r;exact⟨_,by rw[show k=_ from a],b⟩
  | succ i=>exact c e
section
variable{X:Cx}{i:Nat}{x:Str}{e:IG}{pos pos':Pos}
theorem Gg{t:XK->TE}(b:X.N.Nodup)(hi:X.N[i]?=some x)(c:Loc X.env.scope x)(d:PEx X e t)(f:swapsWith e (some (.Name x pos')) pos.line X.env=pure false:=by rfl)(g:X.fn x=true\/X.env.scope.names.lookup x=some .local:=by first | exact .inl rfl | exact .inr rfl | assumption) :
  TV X [.Assign [.Name x pos'] e pos] (λE=>SW (t E) (P2 i)):=by
 intro a s σ H D E I h;refine HQ (wpAny_Assign_Name (B_ (d a s σ H _ E I h) (λv o ⟨y,j,k,l,m⟩=>?_) λ_ _ z=>z) f);exact V7 k b hi c l (λp n=>EV ⟨_,j,n,m⟩) g
end
end L2
namespace TS
open PySem
section
variable{prog:HX}{w:HZ}{K:Type}[DecidableEq K]{knd:KeyKind prog w K}{A:IE}{E:A2->A4->Prop}{s:A4}
theorem Qw{d:A3}{kvs:A0 (K×A2)}{Q:Bool->A4->Prop}(e:s.heap.DictOf knd d kvs)(h:Q false s):wpAny (model prog w) A (Builtin.List.listLengthHint (.ref d)) Q E s:=by
 unfold Builtin.List.listLengthHint;refine AA (GE e.typeIs F.slot_dict_len.lookup ?_);generalize c:("dict.__len__":String)=f;wp_delta;rw[show splitId f=some ("dict", "__len__")from by subst c;decide +kernel];subst c;refine AA (FP (T := "dict") (b:=true) e.typeIs (by rw[isSubtype_type];kernel_rfl) ?_);refine wpAny_ite_split (λa=>absurd a (by decide)) (λ_=>?_);refine wpAny_ite_split (λ_=>?_) (λa=>absurd (by decide +kernel) a);refine AA (EY (T := "dict") e.typeIs ?_);exact AD h
def Yp(knd:KeyKind prog w K)(kvs:A0 (K×A2))(i:Nat)(v:A2):Prop:=∃k x,kvs[i]?=some (k,x)/\knd.is k v=true
theorem Kb{R:Result->A4->Prop}{d:A3}{kvs:A0 (K×A2)}{ep:Nat}(I:A.handled=none)(J:(d == sysModules)=false)(i:s.heap.DictAt knd d kvs ep)(D:kvs.length<=2^24)(S:A3)(res:A2)(c₀:Nat)(a:s.heap.get? S=some { cls:=.type "list",data:=.seq #[] c₀ })
  (L:∀h' u g n,(∀b o,b≠S->s.heap.get? b=some o->h'.get? b=some o)->h'.get? S=some { cls:=.type "list",dict:=none,data:=.seq g n,slots:=#[] } ->
   ItemsOf (Yp knd kvs) g kvs.length->R (.ok (.ret res)) { s with heap:=h',toks:=u }) :
  wpAny (model prog w) A.in1 (Builtin.List.listExtendWith (.ref S) (.ref d) res)
   (λfin l=>match fin with | .done f=>R (.ok f) l | .again n=>n.quiet=true/\codeAny (model prog w) A n R l) (λe l=>R (.error e) l) s:=by
 have E:=i.dictOf.typeIs;obtain⟨X,Y,v,M,_⟩:=id i;have j:S≠d:=λe=>by
  obtain⟨Z,G,N⟩:=E;rw[<-e,a]at G;cases G;exact absurd N (by intro z;injection z with z;revert z;decide)
 have x:d<s.heap.objs.size:=AG v;have p:S<s.heap.objs.size:=AG a;have m:S≠s.heap.objs.size:=BA p;have y:S∉[s.heap.objs.size,d]:=λi=>by
  rcases AU.mp i with e | e
  .exact m e
  .exact j (AE.mp e)
 have W:=(Walks.dictKeys (prog:=prog) (w:=w) (A:=A.in1) (knd:=knd) I s.heap.objs.size d (BA x) kvs ep).toS;have q:∀(h:IC) (r3 u:Nat),(h.IsKeyIter s.heap.objs.size d 0 kvs.length ep/\h.DictAt knd d kvs ep)->(∀b o,b≠S->s.heap.get? b=some o->h.get? b=some o) ->
   h.get? S=some { cls:=.type "list",data:=.seq #[] r3 }->codeAny (model prog w) A (.builtin "list.extend.loop" ⟨[.ref S,.ref s.heap.objs.size,res],[]⟩) R { s with heap:=h,toks:=u }:=by
  intro h r3 u k O a₁;refine codeAny_extend_loopS W (by rw[sizeLine_eq];lia) S y res kvs.length 0 _ #[] r3 rfl (CB _) k a₁ (ItemsOf.nil _) λl g n i B r=>?_;rw[Moved.eq_with i];refine L l.heap l.toks g n (λb o t e=>i.heap b o (λhmem=>?_) (O b o t e)) B r;rcases AU.mp hmem with P | hmem
  .exact t P
  .exact absurd (AG e) (by rw[AE.mp hmem];exact DA _)
 unfold Builtin.List.listExtendWith;refine AA (EY (T := "dict") E ?_);have Q:Builtin.List.listSameRef (.ref S) (.ref d)=false:=by simp[Builtin.List.listSameRef,j]
 have U:(Value.type "dict" == Value.type "list")=false:=by decide
 have V:(Value.type "dict" == Value.type "tuple")=false:=by decide
 simp only[Q,U,V,Bool.or_false,BD,CO];refine AA (wpAny_pyIter_dict J i ?_);have C:∀H,(s.heap.push H).DictAt knd d kvs ep:=λH=>i.at' λo e=>AC _ e;refine AA (BP (Qw (knd:=knd) (kvs:=kvs) (C _).dictOf ?_));have k₁:(s.heap.push { cls:=.type "dict_keyiterator",data:=.fields #[.ref d,.int 0 0,.int kvs.length 0,.int ep 0] }).IsKeyIter s.heap.objs.size d 0 kvs.length ep:=⟨_,AW _ rfl,rfl,rfl⟩;have a₁:=AC { cls:=.type "dict_keyiterator",data:=.fields #[.ref d,.int 0 0,.int kvs.length 0,.int ep 0] } a;refine wpAny_ite_split (λ_=>?_) (λ_=>AD ⟨plainId_quiet F.plain_extend_loop _,q _ c₀ _ ⟨k₁,C _⟩ (λb o _ e=>AC _ e) a₁⟩);refine AA (DG ?_);refine AA ?_;show wpAny _ _ (updateSeq S (·.push .none) >>= λ_=>updateSeq S (·.pop)) _ _ _;refine AA (wpAny_updateSeq a₁ rfl ?_);have a₂:=BZ (Obj.mapSeq (·.push Value.none)) a₁ rfl;refine wpAny_updateSeq (hz:=by seq_fits) a₂ rfl ?_;have a₃:=BZ (Obj.mapSeq (·.pop)) a₂ rfl;refine AD ⟨plainId_quiet F.plain_extend_loop _,q _ _ _ ⟨k₁.at λo e=>?_,(C { cls:=.type "dict_keyiterator",data:=.fields #[.ref d,.int 0 0,.int kvs.length 0,.int ep 0] }).at' λo e=>?_⟩ (λb o t e=>?_) a₃⟩
 .exact(BH _ _ m).trans ((BH _ _ m).trans e)
 .exact(BH _ _ j).trans ((BH _ _ j).trans e)
 .exact(BH _ _ (Ne.symm t)).trans ((BH _ _ (Ne.symm t)).trans (AC _ e))
end
end TS
namespace L2
open PySem PySem.Spec PyProof.Rows
section
variable{X:Cx}
theorem Ej:∀{ss:A0 Str} {us:A0 A2},us.length=ss.length->(∀(i:Nat) (v:A2),us[i]?=some v->∃x t,ss[i]?=some x/\v = .str x t)->IJ (ss.map V.str) us
 | [],[],_,_=>.nil
 | [],_::_,h,_=>by cases h
 | _::_,[],h,_=>by cases h
 | y::ss,u::us,h,a=>by
  obtain⟨x,t,e,rfl⟩:=a 0 u rfl;cases e;exact .cons ⟨t,rfl⟩ (Ej (by simpa using h) λi v b=>a (i+1) v b)
end
section
variable{P:HX}{w:HZ}{K:VA}{mg:Str->A5 A2}{base:IC}
theorem PY.o1{x a:Str}{st:IP}{f:A3}{g:IW}{N ps:A0 Str}{k:Nat}{sp:Sp}(F:PY K x a st f g)(S:IB N ps (B6 st))
  (b:∀(d:A2) (A:IE) (c:A0 QY) (s:A4) (H:Hp) (vs:A0 V) (Q:VK) (E:XK),JV k (A.deeper (envOfC a (B6 st) s.heap.objs.size f d))->sp vs H Q E ->
   ∃t,QK (Zg JR P w K mg base N a (B6 st) f d A c s H E).nox (S3 st) t/\t { nx:=λ_ H'=>Q .non H',rt:=Q } (Fa N vs) H) (e:∀vs H Q E,sp vs H Q E->vs.length=ps.length:=by intro _ _ _ _ h;repeat first | (obtain⟨h,_⟩:=h;subst h;rfl) | (obtain⟨_,h⟩:=h)):IM P w K mg base JR (k+1) f g ps sp:=F.ok S e b
end
end L2
namespace TS
open PySem
section
variable{prog:HX}{w:HZ}{K:Type}[DecidableEq K]{knd:KeyKind prog w K}{A:IE}{E:A2->A4->Prop}{s:A4}
theorem Po{R:Result->A4->Prop}{d:A3}{kvs:A0 (K×A2)}{ep:Nat}(e:A.handled=none)(f:(d == sysModules)=false)(g:s.heap.DictAt knd d kvs ep)(c:kvs.length<=2^24)(S:A3)(h:s.heap.get? S=some { cls:=.type "list",data:=.seq #[] })
  (i:∀h' j a k,(∀b o,b≠S->s.heap.get? b=some o->h'.get? b=some o)->h'.get? S=some { cls:=.type "list",dict:=none,data:=.seq a k,slots:=#[] } ->
   ItemsOf (Yp knd kvs) a kvs.length->R (.ok (.ret (.ref S))) { s with heap:=h',toks:=j }):codeAny (model prog w) A (.builtin "list.__iadd__" ⟨[.ref S,.ref d],[]⟩) R s:=by
 refine DI F.entry_list_iadd ?_;rw[Around.under_plainId F.plain_list_iadd _];show wpAny _ A.in1 (Builtin.List.listExtendWith (.ref S) (.ref d) (.ref S)) _ _ _;exact Kb (A:=A) e f g c S _ 0 h i
theorem PM{Q:A0 A2->A4->Prop}{d:A3}{kvs:A0 (K×A2)}{ep:Nat}(i:A.handled=none)(j:(d == sysModules)=false)(k:s.heap.DictAt knd d kvs ep)(c:kvs.length<=2^24)
  (m:∀h' h a,(∀b o,s.heap.get? b=some o->h'.get? b=some o)->s.heap.objs.size<h'.objs.size->ItemsOf (Yp knd kvs) a kvs.length->Q a.toList { s with heap:=h',toks:=h }):wpAny (model prog w) A (collect (.ref d)) Q E s:=by
 unfold collect;refine AA (wpAny_runValue (DI F.entry_proto_collect ?_));rw[Around.under_plainId F.plain_proto_collect _];show wpAny _ A.in1 (newList [] >>= λl=>again (.builtin "list.__iadd__" ⟨[l,.ref d],[]⟩)) _ _ s;refine AA (BV ?_);refine AD ⟨plainId_quiet F.plain_list_iadd _,Po (A:=A) (s:={ s with heap:=s.heap.push { cls:=.type "list",data:=.seq ([]:A0 A2).toArray } }) i j (k.at' λo e=>AC _ e) c s.heap.objs.size (AW _ rfl) λh' h a p n f g=>?_⟩;show wpAny _ A (load s.heap.objs.size >>= _) _ _ _;refine AA (wpAny_load f ?_);exact AD (m h' h a (λb o e=>n b o (BA (AG e)) (AC _ e)) (AG f) g)
end
end TS
namespace L2
open PySem PySem.Spec PyProof.Rows
section
variable{X:Cx}
theorem Xd(hc:X.calm=true:=by rfl):J8 X (.builtin "sorted") (λxs H Q=>∃(d:A3) (kvs:A0 (IS×V)) (ss:A0 Str),xs = [.ref d]/\Rd H d (.dK kvs)/\(kvs.map λk=>k.1)=ss.map Sum.inr/\∀(l:A3) (n:A0 Str),H l=none->n.Perm ss->n.Pairwise NR->Q (.ref l) (H_ H l (.lst (n.map V.str)))):=by
 intro pins s σ H xs c Q I r h;obtain⟨d,kvs,ss,rfl,E,hk,q⟩:=h;obtain⟨u,rfl,ru⟩:=Y3 r;cases ru;obtain⟨o,p,j,f,r,g,ep,C,F,G,J⟩:∃o,kvs.length<=sizeLine/\(d == sysModules)=false/\∃f,KV kvs f/\∃g ep,s.heap.get? d=some o/\o.ExactDict/\o.data = .dict g ep/\(PySem.KeysOf (C8 X.prog X.w) g/\Pairs (C8 X.prog X.w) g.toList f/\(f.map (·.1)).Nodup):=by
  rcases E with E | ⟨o,E⟩
  .obtain⟨p,j,f,r,o,g,ep,C,F,G,J⟩:=(show IU X.prog X.w H s.heap d (.dK kvs)from I.hok d _ E);exact⟨o,p,j,f,r,g,ep,C,F,G,J⟩
  .obtain⟨C,p,j,f,r,o',g,ep,M,F,G,J⟩:=(show IU X.prog X.w H s.heap d (.frz o (.dK kvs))from I.hok d _ E);exact⟨o',p,j,f,r,g,ep,M,F,G,J⟩
 have hl:kvs.length=f.length:=r.length;have N:kvs.length=ss.length:=by have:=congrArg List.length hk;simpa using this
 refine TS.KS (TS.PM (A:=X.A.in1) (knd:=C8 X.prog X.w) (kvs:=f) (ep:=ep) (show X.A.in1.handled=none from I.ok.hd hc) j ⟨o,g,C,F,G,J⟩ (by rw[sizeLine_eq]at p;lia) λO tk z k1 g1 m=>?_);have hn:z.toList.length=ss.length:=by have:=m.1;rw[AS];lia
 have D:IJ (ss.map V.str) z.toList:=Ej hn λi v D=>by
  obtain⟨k,x,e,kk⟩:=m.2 i v (by simpa using D);have P:i<kvs.length:=by rw[hl];exact(AK.mp e).1
  have hx:kvs[i]?=some (kvs[i].1,kvs[i].2):=AF P;obtain⟨u,K,_⟩:=r.atV hx;rw[K]at e;cases e;have h2:=congrArg (λl=>l[i]?) hk;rw[AH,hx,AH,HE]at h2;obtain⟨x',R,ex⟩:=BF.mp h2.symm;rw[<-ex]at kk;rcases G8 (show Df (.inr x') v=true from kk)with⟨i,t,S,e2⟩ | ⟨y,t,S,e2⟩
  .cases S
  .cases S;exact⟨_,t,R,e2⟩
 have j:=U7 D;refine⟨rfl,by rw[sizeLine_eq]at p⊢;lia,strKind,oneType',λs2 _=>TS.MP j,λout h' e C k hg=>?_⟩;obtain⟨T,hs⟩:=C;have U:∀v∈out.toList,∃x t,v = .str x t:=λv D=>j.all v (T.mem_iff.mp D);have W:IJ ((out.toList.map strOf).map V.str) out.toList:=by
  have:∀c:A0 A2,(∀v∈c,∃x t,v = .str x t)->IJ ((c.map strOf).map V.str) c:=by
   intro c
   induction c with
   | nil=>exact λ_=>.nil
   | cons v r Y =>
    intro h;obtain⟨x,t,rfl⟩:=h v (AX ..);exact .cons ⟨t,rfl⟩ (Y λu K=>h u (AL _ K))
  exact this _ U
 have Z:z.toList.map strOf=ss:=by
  have:∀{ss:A0 Str} {c:A0 A2},IJ (ss.map V.str) c->c.map strOf=ss:=by
   intro ss
   induction ss with
   | nil=>intro c h;cases h;rfl
   | cons x r Y =>
    intro c h;cases h with
    | cons a b =>
     obtain⟨t,rfl⟩:=a;rw[BM,Y b];rfl
  exact this D
 have B:(out.toList.map strOf).Perm ss:=by rw[<-Z];exact T.map strOf
 have hpw:(out.toList.map strOf).Pairwise NR:=by
  rw[CT];refine(EJ.mp hs).imp fun{u v} ⟨K,hv',q⟩=>?_;obtain⟨x,t,rfl⟩:=U u K;obtain⟨y,t',rfl⟩:=U v hv';have q':decide (y.cps.toList<x.cps.toList)=false:=q;exact HF q'
 have k0:∀b o,s.heap.get? b=some o->h'.get? b=some o:=λb o eb=>k b o (k1 b o eb);have L:s.heap.objs.size<=O.objs.size:=DR g1;exact⟨.ref O.objs.size,_,I.laid (a:=O.objs.size) (o:=.lst ((out.toList.map strOf).map V.str)) (t':=tk) k0 L ⟨by rw[AB,AB,T.length_eq,hn,<-N];exact p,out.toList,e,W,by simpa using hg⟩,rfl,q _ _ (I.hok.fresh L) B hpw⟩
end
end L2
namespace HT
open PySem PyProof.Rows PySem.Spec
section
variable{prog:HX}{w:HZ}{A:IE}{E:A2->A4->Prop}{s:A4}
theorem NO{t b:A3}{items:HW A2}{g i:A2}{lo hi:A5 Int}{Q:A2->A4->Prop}(a:IsTup s.heap t items)(j:s.heap.IsSliceOf b g i .none)(pl:IsPart g lo)(k:IsPart i hi)
  (hw:JP items.size 0 lo=0/\JP items.size items.size hi=items.size) (h:Q (.ref t) s):wpAny (model prog w) A (getItem (.ref t) (.ref b)) Q E s:=by
 obtain⟨os,c,d,l⟩:=id j;have e:s.TypeIs (.ref b) "slice":=⟨os,c,d⟩;unfold getItem
 try with_reducible refine BP ?_
 first | refine AA (AD ?_) | skip
 refine AA (wpAny_sequenceKey a.typeIs (by decide) ?_);refine AA (CG (name:=Str.ofString "__getitem__") a.typeIs PyProof.Rows.slot_tuple_getitem
  (CF PyProof.Rows.slot_tuple_getitem a.typeIs entry_tuple_getitem ?_ (args_tuple_getitem _ _)))
 show wpAny _ _ (Builtin.Tuple.tupleItemsOf (.ref t) >>= _) _ _ s;refine AA (tupleItemsOf_ a ?_);refine AA (EY e ?_);rw[AN (by decide)];refine AA (X1 j pl k ?_);have f:((((JP items.size 0 lo:Nat):Int) == 0 &&(1:Int) == 1 &&(JP items.size items.size hi-JP items.size 0 lo) == items.size)=true):=by
  rw[hw.1,hw.2];simp
 show wpAny _ _ (if(((JP items.size 0 lo:Nat):Int) == 0 &&(1:Int) == 1 &&(JP items.size items.size hi-JP items.size 0 lo) == items.size)=true then _ else _) _ _ s;rw[AN f];unfold Builtin.Tuple.tupleIsExact;refine AA (AA (EY a.typeIs (AD ?_)));rw[AN (by decide)];refine AA (DG ?_);show wpAny _ _ (ret (Value.ref t)) _ _ _;exact AD ⟨_,rfl,AD h⟩
end
end HT
namespace L2
open PySem PySem.Spec PyProof.Rows
section
variable{X:Cx}
def zHx(K:VA):V->A5 Int->A5 Int->Hp->VK->Prop:=λx lo c H Q=>∃a b,x = .ref a/\IV K H a b/\(HT.JP b.length 0 lo=0/\HT.JP b.length b.length c=b.length)/\Q (.ref a) H
theorem zAi:RJ X (zHx X.K):=by
 intro d s σ H x v n o lo p t Q I f g i j h;obtain⟨a,k,rfl,l,m,q⟩:=h;cases f;obtain⟨c,r,e,u⟩:=I.tuple l;have b:c.toArray.size=k.length:=by rw[AR];exact r.length.symm
 refine⟨"tuple",_,PyProof.Rows.slot_tuple_getitem.lookup,e.typeIs,?_⟩;exact HT.NO e g i j (by rw[b];exact m) ⟨.ref a,H,I,rfl,q⟩
def zFv(K:VA):V->A5 Int->A5 Int->Hp->VK->Prop:=λx lo a H Q=>zFl K x lo a H Q\/zHx K x lo a H Q
theorem zIa(K:VA)(a:X.K=K:=by rfl):RJ X (zFv K):=by subst a;exact Q_.or zAi
end
end L2
namespace Sw
open PySem L2
def KA(i:Nat):IP:=PySem.Challenge.pw_strikeweave_k63_names_put_and_taken.main.body.getD i (.Pass ⟨0,0,0,0⟩)
abbrev LQ:IP:=KA 12
abbrev NW:IP:=KA 13
abbrev OG:IP:=KA 14
abbrev PF:IP:=KA 15
abbrev PZ:IP:=KA 16
abbrev O_:IP:=KA 21
abbrev MW:IP:=KA 22
abbrev LV:IP:=KA 23
abbrev N_:IP:=KA 24
abbrev P6:IP:=KA 25
abbrev OX:IP:=KA 26
abbrev PD:IP:=KA 29
abbrev L_:IP:=KA 30
abbrev MA:IP:=KA 31
abbrev OY:IP:=KA 33
abbrev OJ:IP:=KA 34
abbrev OI:IP:=KA 35
abbrev LG:IP:=KA 36
abbrev NX:IP:=KA 37
abbrev OZ:IP:=KA 38
abbrev OK:IP:=KA 39
abbrev NY:IP:=KA 40
abbrev LS:IP:=KA 41
abbrev LR:IP:=KA 42
abbrev LU:IP:=KA 43
abbrev NK:IP:=KA 44
abbrev ME:IP:=KA 45
abbrev MD:IP:=KA 46
abbrev OM:IP:=KA 47
abbrev MU:IP:=KA 48
abbrev MC:IP:=KA 49
abbrev MV:IP:=KA 50
abbrev QG:IP:=KA 51
abbrev OL:IP:=KA 52
abbrev OH:IP:=KA 53
abbrev NJ:IP:=KA 54
abbrev NH:IP:=KA 55
abbrev NZ:IP:=KA 56
abbrev NA:IP:=J9 (KA 3) 0
abbrev MI:IP:=J9 (KA 4) 0
abbrev MG:IP:=J9 (KA 20) 0
abbrev LX:IP:=J9 (KA 20) 1
abbrev K_:IP:=J9 (KA 20) 2
abbrev MF:IP:=J9 (KA 20) 3
abbrev NL:IP:=J9 (KA 20) 4
abbrev LW:IP:=J9 (KA 20) 5
abbrev LC:IP:=J9 (KA 28) 0
abbrev LB:IP:=J9 (KA 28) 1
abbrev KW:IP:=J9 (KA 28) 2
abbrev KN:IP:=J9 (KA 28) 3
abbrev KH:IP:=J9 (KA 28) 4
abbrev ON:IP:=J9 (KA 28) 5
abbrev OA:IP:=J9 (KA 28) 6
abbrev OV:IP:=J9 (KA 28) 7
abbrev LH:IP:=J9 (KA 28) 8
abbrev KP:IP:=J9 (KA 28) 9
abbrev LY:IP:=J9 (KA 28) 10
set_option genInjectivity false in
structure Tx(K:VA)(mg:Str->A5 A2) where
 aI:Fn K mg "rounds_beside" LQ ["web","known"]
 aR:Fn K mg "one_round" NW ["web","words","number"]
 aN:Fn K mg "wordless" OG ["web","words"]
 bd:Fn K mg "all_out" PF ["web","words","name"]
 bg:Fn K mg "one_in" PZ ["web","words","name"]
 a3:Fn K mg "is_name" O_ ["thing"]
 aS:Fn K mg "check_names" MW ["names"]
 aJ:Fn K mg "check_strikes" LV ["names","strikes"]
 aZ:Fn K mg "is_strike" N_ ["names","thing"]
 bh:Fn K mg "behind" P6 ["web","some"]
 be:Fn K mg "reached" OX ["steps","some"]
 a4:Fn K mg "copy_of" PD ["web"]
 aD:Fn K mg "words_beside" L_ ["web","stay"]
 aO:Fn K mg "otherwise_in" MA ["old","new"]
 a5:Fn K mg "_law_mix" OY ["_law_cell","_law_k"]
 aV:Fn K mg "_law_left" OJ ["_law_script","_law_k"]
 af:Fn K mg "_law_pick" OI ["_law_left_here","_law_many"]
 aG:Fn K mg "_law_many_names" LG ["_law_left_here","_law_many"]
 a0:Fn K mg "_law_masks" NX ["_law_names","_law_strikes"]
 a6:Fn K mg "_law_hit" OZ ["_law_view","_law_mask"]
 aW:Fn K mg "_law_kept" OK ["_law_view","_law_mask"]
 a1:Fn K mg "_law_least" NY ["_law_view"]
 aK:Fn K mg "_law_web_drawn" LS ["_law_left_here"]
 aA:Fn K mg "_law_word_rows" LR ["_law_own"]
 aL:Fn K mg "_law_otherwise" LU ["_law_old","_law_new"]
 aw:Fn K mg "_law_a_name" NK ["_law_left_here","_law_own"]
 aE:Fn K mg "_law_any_name" ME ["_law_left_here"]
 aP:Fn K mg "_law_odd_sign" MD ["_law_left_here","_law_text"]
 a8:Fn K mg "_law_deed" OM ["_law_left_here","_law_own"]
 aT:Fn K mg "_law_is_name" MU ["_law_word"]
 aQ:Fn K mg "_law_word_due" MC ["_law_own","_law_deed_here"]
 aU:Fn K mg "_law_changed" MV ["_law_own","_law_deed_here"]
 bi:Fn K mg "_law_kind" QG ["_law_error"]
 a9:Fn K mg "_law_done" OL ["_law_keeper","_law_deed_here"]
 al:Fn K mg "_law_same" OH ["_law_found","_law_due"]
 aX:Fn K mg "_law_web_is" NJ ["_law_web","_law_own"]
 aY:Fn K mg "_law_weight" NH ["_law_own"]
 ac:A3
 ag:QV K ac
 bb:mg "Web" = some (.ref ac)
 aM:JK K ac "names"
 a2:JK K ac "strikes"
 aC:JK K ac "strikers_by_name"
 aF:JK K ac "struck_by_name"
 bu:A3
 bt:IW
 bv:PY K "__init__" "Web.__init__" MG bu bt
 ax:Binds K bt ["self","names","strikes"] []
 bc:Mk K ac bu
 ab:Mt K ac "all_names" "Web.all_names" LX ["self"]
 ae:Mt K ac "all_strikes" "Web.all_strikes" K_ ["self"]
 ar:Mt K ac "strikers" "Web.strikers" MF ["self","name"]
 ap:Mt K ac "struck" "Web.struck" NL ["self","name"]
 aj:Mt K ac "check_has" "Web.check_has" LW ["self","name"]
 aa:A3
 ad:QV K aa
 bC:mg "Keeper" = some (.ref aa)
 ah:JK K aa "web"
 aB:JK K aa "given"
 ba:JK K aa "reckoned"
 bj:JK K aa "past"
 bo:A3
 bn:IW
 bp:PY K "__init__" "Keeper.__init__" LC bo bn
 bq:Binds K bn ["self","web"] []
 bD:Mk K aa bo
 au:Mt K aa "put_name" "Keeper.put_name" LB ["self","name"]
 aq:Mt K aa "take_name" "Keeper.take_name" KW ["self","name"]
 an:Mt K aa "put_strike" "Keeper.put_strike" KN ["self","one","other"]
 am:Mt K aa "take_strike" "Keeper.take_strike" KH ["self","one","other"]
 bJ:Mt K aa "words" "Keeper.words" ON ["self"]
 bK:Mt K aa "looked" "Keeper.looked" OA ["self"]
 bL:Mt K aa "undo" "Keeper.undo" OV ["self"]
 ay:Mt K aa "web_now" "Keeper.web_now" LH ["self"]
 ao:Mt K aa "has_strike" "Keeper.has_strike" KP ["self","one","other"]
 ak:Mt K aa "change" "Keeper.change" LY ["self","web","changed"]
 bM:A3
 bN:A0 A2
 bw:XC K bM bN
 bx:mg "StrikeError" = some (.ref bM)
 bO:A3
 bP:A0 A2
 bQ:XC K bO bP
 bR:mg "BadName" = some (.ref bO)
 bS:A3
 bT:A0 A2
 bU:XC K bS bT
 bV:mg "BadStrike" = some (.ref bS)
 bW:A3
 bX:A0 A2
 bY:XC K bW bX
 bZ:mg "BadWeave" = some (.ref bW)
 b0:A3
 b1:A0 A2
 b2:XC K b0 b1
 b3:mg "BadRow" = some (.ref b0)
 b4:A3
 b5:A0 A2
 b6:XC K b4 b5
 b7:mg "NoName" = some (.ref b4)
 b8:A3
 b9:A0 A2
 ca:XC K b8 b9
 cb:mg "NoStrike" = some (.ref b8)
 cc:A3
 cd:A0 A2
 ce:XC K cc cd
 cf:mg "NoMove" = some (.ref cc)
 cg:A3
 ch:A0 A2
 ci:XC K cg ch
 cj:mg "TooMany" = some (.ref cg)
 ck:XG K bO
 cl:IsC K bO
 cm:(Value.ref bO::bP).contains (.ref bM)=true
 cn:PySem.W.kitOne K (.ref bO) (.ref bO)=some true
 co:PySem.W.kitOne K (.ref bO) (.ref bS)=some false
 cp:PySem.W.kitOne K (.ref bO) (.ref bW)=some false
 cq:PySem.W.kitOne K (.ref bO) (.ref b0)=some false
 cr:PySem.W.kitOne K (.ref bO) (.ref b4)=some false
 cs:PySem.W.kitOne K (.ref bO) (.ref b8)=some false
 ct:PySem.W.kitOne K (.ref bO) (.ref cc)=some false
 cu:PySem.W.kitOne K (.ref bO) (.ref cg)=some false
 cv:PySem.W.kitOne K (.ref bO) (.type "ValueError")=some true
 cw:JK K bO "place"
 cx:A3
 cy:IW
 cz:PY K "__init__" "BadName.__init__" NA cx cy
 cA:Binds K cy ["self","place"] []
 cB:QM K bO "__init__" cx
 cC:XG K bS
 cD:IsC K bS
 cE:(Value.ref bS::bT).contains (.ref bM)=true
 cF:PySem.W.kitOne K (.ref bS) (.ref bO)=some false
 cG:PySem.W.kitOne K (.ref bS) (.ref bS)=some true
 cH:PySem.W.kitOne K (.ref bS) (.ref bW)=some false
 cI:PySem.W.kitOne K (.ref bS) (.ref b0)=some false
 cJ:PySem.W.kitOne K (.ref bS) (.ref b4)=some false
 cK:PySem.W.kitOne K (.ref bS) (.ref b8)=some false
 cL:PySem.W.kitOne K (.ref bS) (.ref cc)=some false
 cM:PySem.W.kitOne K (.ref bS) (.ref cg)=some false
 cN:PySem.W.kitOne K (.ref bS) (.type "ValueError")=some true
 cO:JK K bS "place"
 cP:A3
 cQ:IW
 cR:PY K "__init__" "BadStrike.__init__" MI cP cQ
 cS:Binds K cQ ["self","place"] []
 cT:QM K bS "__init__" cP
 cU:XG K b4
 cV:IsC K b4
 cW:(Value.ref b4::b5).contains (.ref bM)=true
 cX:PySem.W.kitOne K (.ref b4) (.ref bO)=some false
 cY:PySem.W.kitOne K (.ref b4) (.ref bS)=some false
 cZ:PySem.W.kitOne K (.ref b4) (.ref bW)=some false
 c0:PySem.W.kitOne K (.ref b4) (.ref b0)=some false
 c1:PySem.W.kitOne K (.ref b4) (.ref b4)=some true
 c2:PySem.W.kitOne K (.ref b4) (.ref b8)=some false
 c3:PySem.W.kitOne K (.ref b4) (.ref cc)=some false
 c4:PySem.W.kitOne K (.ref b4) (.ref cg)=some false
 c5:PySem.W.kitOne K (.ref b4) (.type "ValueError")=some true
 c6:PySem.W.findIn K (.ref b4) "__init__" = some (some (.builtin "ValueError.__init__"))
 c7:XG K b8
 c8:IsC K b8
 c9:(Value.ref b8::b9).contains (.ref bM)=true
 da:PySem.W.kitOne K (.ref b8) (.ref bO)=some false
 db:PySem.W.kitOne K (.ref b8) (.ref bS)=some false
 dc:PySem.W.kitOne K (.ref b8) (.ref bW)=some false
 dd:PySem.W.kitOne K (.ref b8) (.ref b0)=some false
 de:PySem.W.kitOne K (.ref b8) (.ref b4)=some false
 df:PySem.W.kitOne K (.ref b8) (.ref b8)=some true
 dg:PySem.W.kitOne K (.ref b8) (.ref cc)=some false
 dh:PySem.W.kitOne K (.ref b8) (.ref cg)=some false
 di:PySem.W.kitOne K (.ref b8) (.type "ValueError")=some true
 dj:PySem.W.findIn K (.ref b8) "__init__" = some (some (.builtin "ValueError.__init__"))
 bE:∃t,mg "LETTERS" = some (.str "abcdefghijklmnopqrstuvwxyz" t)
 bz:∃t,mg "LONGEST_NAME" = some (.int 8 t)
 as:mg "len" = none
 aH:mg "range" = none
 a7:mg "enumerate" = none
 bF:mg "zip" = none
 bG:mg "min" = none
 bH:mg "max" = none
 bA:mg "abs" = none
 av:mg "sorted" = none
 bB:mg "int" = none
 bk:mg "str" = none
 bl:mg "bool" = none
 az:mg "list" = none
 bf:mg "tuple" = none
 bm:mg "dict" = none
 br:mg "set" = none
 ai:mg "isinstance" = none
 bs:mg "all" = none
 bI:mg "any" = none
 dk:mg "ValueError" = none
end Sw
namespace L2
open PySem
def KL{N ps:A0 Str}{a:KR}(h1:a.kind = .function:=by rfl)(h2:a.isCoroutine=false:=by rfl)(b:a.isGenerator=false:=by rfl)(c:N.Nodup:=by decide +kernel)(d:N.take ps.length=ps:=by rfl)(e:∀x∈ps,a.names.lookup x=some .local\/a.names.lookup x=some .cell:=by decide +kernel)(f:∀y∈a.names,y.2≠ .free:=by decide +kernel):IB N ps a:=⟨h1,h2,b,c,d,e,f⟩
def Rm{j k:Nat}{A:IE}(h:JV k A)(e:j<=k:=by decide):JV j A:=h.mono e
def Ge{J:It}{xs:A0 V}{a:A3}{d:Hp}(as:NQ J xs a d){g:TG}{e:TS}{D:Ends}{σ:St}{H:Hp}(Pv:Nat->St->Hp->Prop)(h:Pv 0 σ H)(j:∀i σ H,i<=xs.length->Pv i σ H->JW a d H)
  (k:∀i σ H x,xs[i]?=some x->Pv i σ H->∀b:Ends,(∀σ' H',Pv (i+1) σ' H'->b.nx σ' H')->b.rt=D.rt->g x σ H λσ2 c=>e b σ2 c) (l:∀σ H,Pv xs.length σ H->D.nx σ H) :
  ∃W:Nat->Nat->St->Hp->Prop,(∃m,W 0 m σ H)/\∀i m σ H,W i m σ H ->
   (J.stop i H/\D.nx σ H)\/(J.go i H/\∃N:St->Hp->Prop,(∀σ' H',N σ' H'->∃f,f < m/\W (i+1) f σ' H')/\∀x H',J.yld i H x H'->g x σ H' λσ2 c=>e { D with nx:=N,ct:=N,bk:=D.nx } σ2 c) :=
 zCj as Pv h j (λi σ H x n o=>k i σ H x n o _ (λ_ _ z=>z) rfl) l
def U8{lo:Int}{n:Nat}{g:TG}{c:TS}{D:Ends}{σ:St}{H:Hp}(Pv:Nat->St->Hp->Prop)(e:Pv 0 σ H)
  (f:∀i σ H,i<n->Pv i σ H->∀a:Ends,(∀σ' H',Pv (i+1) σ' H'->a.nx σ' H')->a.rt=D.rt->g (.int (lo+i)) σ H λσ2 b=>c a σ2 b) (h:∀σ H,Pv n σ H->D.nx σ H) :
  ∃W:Nat->Nat->St->Hp->Prop,(∃m,W 0 m σ H)/\∀i m σ H,W i m σ H ->
   ((QT lo n).stop i H/\D.nx σ H)\/((QT lo n).go i H/\∃N:St->Hp->Prop,(∀σ' H',N σ' H'->∃d,d < m/\W (i+1) d σ' H')/\∀x H',(QT lo n).yld i H x H'->g x σ H' λσ2 b=>c { D with nx:=N,ct:=N,bk:=D.nx } σ2 b) :=
 Ij Pv e (λi σ H j k=>f i σ H j k _ (λ_ _ z=>z) rfl) h
def Cv{α:Type}{A C:α->Prop}{a:α}(e:A a)(h:C a):∃v,A v/\C v:=⟨a,e,h⟩
def S8{α0 α1 α2:Type}{d e f g h i:α0->α1->α2->Prop}{a:α0}{b:α1}{c:α2}(j:d a b c)(h1:e a b c)(h2:f a b c)(k:g a b c)(l:h a b c)(m:i a b c):∃a b c,d a b c/\e a b c/\f a b c/\g a b c/\h a b c/\i a b c:=⟨a,b,c,j,h1,h2,k,l,m⟩
def zGg{α0 α1 α2 α3 α4 α5 α6:Type}{h i j k:α0->α1->α2->α3->α4->α5->α6->Prop}{a:α0}{b:α1}{c:α2}{d:α3}{e:α4}{f:α5}{g:α6}(l:h a b c d e f g)(h1:i a b c d e f g)(h2:j a b c d e f g)(m:k a b c d e f g):∃a b c d e f g,h a b c d e f g/\i a b c d e f g/\j a b c d e f g/\k a b c d e f g:=⟨a,b,c,d,e,f,g,l,h1,h2,m⟩
def C0{α0 α1:Type}{c d e:α0->α1->Prop}{a:α0}{b:α1}(f:c a b)(h1:d a b)(h2:e a b):∃a b,c a b/\d a b/\e a b:=⟨a,b,f,h1,h2⟩
def B4{t u:TS}{D:Ends}{σ:St}{H:Hp}(h:∀N:St->Hp->Prop,(∀σ' H',u D σ' H'->N σ' H')->t { D with nx:=N } σ H):TH t u D σ H:=h _ λ_ _ z=>z
def Yt{i:Nat}{v:V}{t u:TS}{D:Ends}{σ:St}{H:Hp}(h:∀N:St->Hp->Prop,(∀σ' H',u D σ' H'->N σ' H')->t { D with nx:=N } (σ.set i (some v)) H):P2 i v σ H (λσ2 a=>TH t u D σ2 a):=h _ λ_ _ z=>z
end L2
namespace Sw
open PySem L2
section
variable{P:HX}{w:HZ}{K:VA}{mg:Str->A5 A2}{base:IC}
def Es(c:Nat):Bool:=decide (97<=c)&&decide (c<=122)
def N9(x:Str):Bool:=decide (1<=x.length)&&decide (x.length<=8)&&x.cps.toList.all Es
theorem By:("abcdefghijklmnopqrstuvwxyz":Str).cps.toList=List.range' 97 26:=by decide +kernel
theorem Qc(c:Nat):decide (c∈("abcdefghijklmnopqrstuvwxyz":Str).cps.toList)=Es c:=by
 rw[By];unfold Es;by_cases a:97<=c
 .by_cases b:c<=122
  .rw[AQ (List.mem_range'_1.mpr (by lia)),AQ a,AQ b];rfl
  .rw[AM (λz=>by have:=List.mem_range'_1.mp z;lia),AM b,HJ]
 .rw[AM (λz=>by have:=List.mem_range'_1.mp z;lia),AM a,DP]
theorem Oe:IB ["thing"] ["thing"] (B6 O_):=KL
def Ob:Sp:=λb H Q _=>∃x,b = [.str x]/\x.length<=1000/\∀a,C3 H a->Q (.bl (N9 x)) a
theorem El(T:Tx K mg):IM P w K mg base JR 1 T.a3.f T.a3.fd ["thing"] Ob:=by
 refine T.a3.F.o1 Oe λr A b s H B Q E C h=>?_
 .obtain⟨x,rfl,G,k⟩:=h;refine⟨_,(A9 (M0 (PW.pt (Ck (V0 (Q6 (G7 (Q7 K) T.ai E4 (A6 (pv 0) (A6 (m9 T.bk Mg) A8))))) (X5 (V0 (Wz Ux Ux B3 (G7 U0 T.as M9 (A6 (pv 0) A8)) (zHc T.bz)))))) (B5 (C1 Im)) D8)
   (B5 (C1 (G7 (Sd K) T.bs Ua (A6 (V5 (N':=["letter"]) (cap:=[none]) (cl:=[]) (P0 trivial trivial) rfl (Yi (pv 0)) (λ_ _ _ _=>by exact⟨(LM 0),P9,(R8 Uc (pv 0) (zFw T.bE) rfl)⟩)) A8))))),?_⟩
  have d:x.length<=sizeLine:=by rw[sizeLine_eq];lia
  have m:x.cps.size=x.length:=rfl;refine Cv rfl ⟨.str x, "str",_,true,rfl,.str x,rfl,Cv rfl ?_⟩;refine P1 ?_;refine Cv rfl ⟨x,rfl,d,C0 rfl rfl (Cv rfl ?_)⟩;refine Z7 (λa=>?_) (λa=>?_)
  .have a:(1:Int)<=(x.length:Int):=BL a;refine C0 rfl rfl (Cv rfl ?_);by_cases o:(x.length:Int)<=8
   .rw[AQ o];refine P1 ?_;refine Cv rfl ⟨x,rfl,λD p=>?_⟩;refine Eg (n:=x.cps.size) (λi σ g=>(∃v,σ = [v])/\C3 H g/\g D=some (.lst ((x.cps.toList.take i).map λc=>V.bl (Es c)))) ⟨⟨_,rfl⟩,C3.new p,A7⟩ (λi _ _ q _=>q) (λ_ _ _=>rfl) ?_ ?_
    .rintro i σ t v g N q ⟨⟨I,rfl⟩,j,l⟩ ⟨rfl,c,u,rfl⟩ y;refine Cj ?_;refine Cv rfl (C0 rfl rfl ⟨_,l,?_,?_⟩)
     .rw[AB,AZ,sizeLine_eq];lia
     .rw[PySem.StrLaws.found_one,Qc];refine y _ _ ⟨⟨_,rfl⟩,j.upd p,?_⟩;rw[A7];have:x.cps.toList[i]?=some c:=by rw[BJ];exact u
      rw[List.take_add_one,this,AJ];rfl
    .rintro σ t ⟨_,j,l⟩;refine⟨D,x.cps.toList.map Es,rfl,II.of ?_,?_⟩
     .rw[l,<-AS,BS,BQ];rfl
     .have e:(x.cps.toList.map Es).all id=N9 x:=by
       unfold N9;rw[AQ (show 1<=x.length by lia),AQ (show x.length<=8 by lia),List.all_map];rfl
      rw[e];exact k _ j
   .rw[AM o];refine X3 ?_;have e:N9 x=false:=by
     unfold N9;rw[AM (show ¬x.length<=8 by lia),HJ,DP]
    have:=k H (C3.refl H);rw[e]at this;exact this
  .have a:¬(1:Int)<=(x.length:Int):=λz=>a (AQ z);refine Cv rfl ?_;refine X3 ?_;have e:N9 x=false:=by
    unfold N9;rw[AM (show ¬1<=x.length by lia),DP,DP]
   have:=k H (C3.refl H);rw[e]at this;exact this
theorem E3{α:Type}{l:A0 α}{i:Nat}{x:α}(h:l[i]?=some x):l.take (i+1)=l.take i ++ [x]:=by
 rw[List.take_add_one,h];rfl
theorem a7{α:Type}{l:A0 α}{i:Nat}{x:α}(a:l.Nodup)(h:l[i]?=some x):x∉l.take i:=by
 intro b;obtain⟨j,c,e⟩:=List.getElem_of_mem b;have d:j<i:=by rw[AZ]at c;lia
 rw[List.getElem_take]at e;obtain⟨g,f⟩:=AK.mp h;have:=(List.getElem_inj a).mp (e.trans f.symm);lia
theorem JZ:IB ["names","seen","place","name"] ["names"] (B6 MW):=KL
def X6(ss:A0 Str):Prop:=(∀x∈ss,N9 x=true)/\ss.Nodup/\ss.length<=100
def Dc(K:VA):Sp:=λc H Q _=>∃(p:A3) (a:A0 Str),c = [.ref p]/\QQ K H p (a.map V.str)/\X6 a/\∀b,C3 H b->Q .non b
theorem Ho{x:Str}(h:N9 x=true):1<=x.length/\x.length<=8:=by
 unfold N9 at h;rw[CS,CS]at h;exact⟨BL h.1.1,BL h.1.2⟩
theorem Di(T:Tx K mg):IM P w K mg base JR 2 T.aS.f T.aS.fd ["names"] (Dc K):=by
 refine T.aS.F.o1 JZ λU A B s H vs Q E J h=>?_
 .obtain⟨a,b,rfl,V,⟨W,X,hL⟩,k⟩:=h;have hu:=Q9 J;refine⟨_,(A9 (C6 (i:=1) JZ.nd rfl (.inl rfl) (Dm (Zs P w) (by rfl) T.br So))
   (B5 (U4 PassesOwn.never rfl (zFu K T.a7 (A6 (pv 0) A8)) (RC K (n:=2) (E7 (J0 (i:=2) JZ.nd rfl (.inl rfl)) (E7 (J0 (i:=3) JZ.nd rfl (.inl rfl)) R0)))
   (A9 (M0 (PW.pt (Ck (V0 (Q6 (C9 T.a3 (El T) (Rm J) (A6 (pv 3) A8)))) (X5 (B8 (zGu P w) (pv 3) (pv 1) rfl)))) (B5 Z8) D8)
   (B5 (J7 (Tq P w (zFb P w) (pv 1) (A6 (pv 3) A8)))))))),?_⟩
  refine⟨rfl,λp L=>?_⟩;have M:C3 H (H_ H p (Pi P w p [])):=C3.new L;refine Cv rfl ⟨a,Cv rfl (Nc V (M.at a) λsq C=>Vu (n:=b.length) (λi σ g=>∃l m,σ = [some (.ref a),some (.ref p),l,m]/\C3 H g/\g p=some (Pi P w p ((b.take i).map Sum.inr))) ⟨_,_,rfl,M,A7⟩ ?_ ?_ ?_ ?_)⟩
  .rintro i σ g r ⟨l,m,rfl,c,o⟩;exact⟨_,_,C _ (c.at a),by rw[AH,AF r];rfl⟩
  .rintro σ g ⟨l,m,rfl,c,o⟩;exact⟨_,C _ (c.at a),by rw[AB]⟩
  .rintro i σ g v H' r ⟨l,m,rfl,c,o⟩ ⟨t,x,rfl,N,rfl,u⟩;have u:=u _ (C _ (c.at a));have j:b[i]?=some b[i]:=AF r;rw[AH,j]at u;cases u;have Y:b[i]∈b:=DD r;have q:=W _ Y;have O:=Ho q;have D:p≠t:=B0 o N;refine⟨t,Cv rfl ⟨IV.of A7,rfl,_,Cv rfl (C0 rfl rfl ?_)⟩⟩;refine Cv rfl ⟨b[i],rfl,by lia,λR S=>⟨_,rfl,?_⟩⟩;rw[q];refine P1 ?_;have G:C3 H R:=(c.trans (C3.new N)).trans S;have I:R p=some (Pi P w p ((b.take i).map Sum.inr)):=S _ _ (by rw[B7 D];exact o);have d:¬(Sum.inr b[i]:IS)∈(b.take i).map Sum.inr:=λz=>by
    obtain⟨y,Z,e⟩:=BK.mp z;cases e;exact a7 X j Z
   refine Cv rfl (Cv rfl ⟨p,_,Sum.inr b[i],rfl,rfl,I,Cv rfl ?_⟩);rw[AI (by decide),AM d];refine P1 ?_;refine Cv rfl ⟨⟨p,rfl,.inl ⟨_,I⟩⟩,Cv rfl ⟨p,_,Sum.inr b[i],rfl,rfl,I,?_,?_⟩⟩
   .rw[AB,AZ];lia
   .refine⟨_,Cv rfl ⟨G.upd L,?_⟩⟩;rw[A7];unfold zFn;rw[AI d,E3 j,AJ];rfl
  .rintro σ g ⟨l,m,rfl,c,o⟩;exact k g c
def Hw(ss:A0 Str):(ss.map V.str).all Gi=true:=by
 rw[EB];intro v a;obtain⟨x,_,rfl⟩:=BK.mp a;rfl
def Pw(x:Str)(ss:A0 Str):inV (.str x) (ss.map V.str)=decide (x∈ss):=by
 unfold inV;rw[List.any_map]
 induction ss with
 | nil=>rfl
 | cons y r a =>
  rw[GI,a];show((y == x)||decide (x∈r))=decide (x∈y::r);by_cases e:x=y
  .subst e;simp
  .have:(y == x)=false:=by simpa using λz=>e z.symm
   rw[this,Bool.false_or];by_cases h:x∈r
   .rw[AQ h,AQ (AL _ h)]
   .rw[AM h,AM (λz=>(AU.mp z).elim e h)]
def V6{K:VA}{H:Hp}{p:A3}{x:Str}{ss:A0 Str}{Q:VK}(h:QQ K H p (ss.map V.str))(q:Q (.bl (decide (x∈ss))) H):SJ K false (.str x) (.ref p) H Q :=
 ⟨p,_,rfl,h,rfl,Hw ss,by rw[AI (by decide),Pw];exact q⟩
def U6{K:VA}{H:Hp}{p:A3}{x:Str}{ss:A0 Str}{Q:VK}(h:QQ K H p (ss.map V.str))(q:Q (.bl (!decide (x∈ss))) H):SJ K true (.str x) (.ref p) H Q :=
 ⟨p,_,rfl,h,rfl,Hw ss,by rw[AN rfl,Pw];exact q⟩
theorem Gz:IB ["names","thing"] ["names","thing"] (B6 N_):=KL
def Iu(K:VA):Sp:=λb H Q _=>∃(p:A3) (a:A0 Str) (t:A3) (x y:Str),b = [.ref p,.ref t]/\QQ K H p (a.map V.str)/\H t=some (.tup [.str x,.str y])/\x∈a/\y∈a/\Q (.bl true) H
theorem Ib(T:Tx K mg):IM P w K mg base JR 1 T.aZ.f T.aZ.fd ["names","thing"] (Iu K):=by
 refine T.aZ.F.o1 Gz λe A c s H j Q E l h=>?_
 .obtain⟨p,m,t,x,y,rfl,d,b,g,i,k⟩:=h;refine⟨_,(A9 (M0 (PW.pt (Ck (V0 (Q6 (G7 (Q7 K) T.ai E4 (A6 (pv 1) (A6 (m9 T.bf Be) A8))))) (X5 (B8 Db (G7 (Q2 K) T.as M9 (A6 (pv 1) A8)) B3 (D0 _))))) (B5 (C1 Im)) D8)
   (B5 (C1 (Bn (R8 (Od K) (E5 (OW K) (pv 1) B3 (λ_ _=>rfl)) (pv 0) rfl) (Eb (R8 (Od K) (E5 (OW K) (pv 1) B3 (λ_ _=>rfl)) (pv 0) rfl)))))),?_⟩
  refine Cv rfl ⟨_, "tuple",_,true,rfl,.tup b,rfl,Cv rfl ?_⟩;refine P1 ?_;refine Cv rfl (C0 (a:=t) rfl (.inr (IV.of b)) ⟨rfl,Cv rfl ?_⟩);refine P1 ?_;refine Cv rfl ⟨t,_,C0 rfl rfl ⟨IV.of b,rfl,Cv rfl (V6 d ⟨_,rfl,?_⟩)⟩⟩;rw[AQ g];refine X3 ?_;refine Cv rfl ⟨t,_,C0 rfl rfl ⟨IV.of b,rfl,Cv rfl (V6 d ?_)⟩⟩;rw[AQ i];exact k
structure NT(ss:A0 Str)(ps:A0 IQ):Prop where
 nm:∀q∈ps,q.2.1∈ss/\q.2.2∈ss
 nd:(ps.map λq=>q.2).Nodup
 len:ps.length<=200
def G0(ps:A0 IQ):A0 V:=ps.map λq=>V.ref q.1
def Ju(ps:A0 IQ):A0 (A0 IS×A3):=ps.map λq=>([.inr q.2.1,.inr q.2.2],q.1)
theorem Wn{H:Hp}{ps:A0 IQ}(h:∀q∈ps,G9 H q):Kz H (Ju ps):=λk a=>by
 obtain⟨q,b,rfl⟩:=BK.mp a;exact h q b
theorem G6{H H':Hp}{ps:A0 IQ}(s:C3 H H')(h:∀q∈ps,G9 H q):∀q∈ps,G9 H' q:=λq a=>s _ _ (h q a)
theorem JO:IB ["names","strikes","seen","place","strike"] ["names","strikes"] (B6 LV):=KL
def Au(K:VA):Sp:=λd H Q _=>∃(p:A3) (b:A0 Str) (a:A3) (ps:A0 IQ),d = [.ref p,.ref a]/\QQ K H p (b.map V.str)/\II K H a (G0 ps)/\(∀q∈ps,G9 H q)/\NT b ps/\∀c,C3 H c->Q .non c
theorem At(T:Tx K mg):IM P w K mg base JR 2 T.aJ.f T.aJ.fd ["names","strikes"] (Au K):=by
 refine T.aJ.F.o1 JO λW A C s H vs Q E M h=>?_
 .obtain⟨n,X,a,ps,rfl,Y,u,N,⟨Z,hD,hL⟩,k⟩:=h;have O:=Q9 M;refine⟨_,(A9 (C6 (i:=2) JO.nd rfl (.inl rfl) (Dm (Va P w) (by rfl) T.br So))
   (B5 (U4 PassesOwn.never rfl (zFu K T.a7 (A6 (pv 1) A8)) (RC K (n:=2) (E7 (J0 (i:=3) JO.nd rfl (.inl rfl)) (E7 (J0 (i:=4) JO.nd rfl (.inl rfl)) R0)))
   (A9 (M0 (PW.pt (Ck (V0 (Q6 (C9 T.aZ (Ib T) (Rm M) (A6 (pv 0) (A6 (pv 4) A8))))) (X5 (B8 (zGm P w O) (pv 4) (pv 2) rfl)))) (B5 Z8) D8)
   (B5 (J7 (Tq P w (zDd P w O) (pv 2) (A6 (pv 4) A8)))))))),?_⟩
  refine⟨rfl,λp R=>?_⟩;have S:C3 H (H_ H p (Pg P w p [])):=C3.new R;refine Cv rfl ⟨a,Cv rfl (.inl ⟨(S.at a).seqL u,Vu (n:=ps.length) (λi σ b=>∃j v4,σ = [some (.ref n),some (.ref a),some (.ref p),j,v4]/\C3 H b/\b p=some (Pg P w p (Ju (ps.take i)))) ⟨_,_,rfl,S,A7⟩ ?_ ?_ ?_ ?_⟩)⟩
  .rintro i σ b y ⟨D,j,rfl,c,l⟩;exact⟨_,_,(c.at a).seqL u,by unfold G0;rw[AH,AF y];rfl⟩
  .rintro σ b ⟨D,j,rfl,c,l⟩;exact⟨_,(c.at a).seqL u,by unfold G0;rw[AB]⟩
  .rintro i σ b v H' y ⟨D,j,rfl,c,l⟩ ⟨t,x,rfl,U,rfl,m⟩;have m:=m _ ((c.at a).seqL u);have d:ps[i]?=some ps[i]:=AF y;unfold G0 at m;rw[AH,d]at m;cases m;have V:ps[i]∈ps:=DD y;obtain⟨G,I⟩:=Z _ V;have J:p≠t:=B0 l U;have B:C3 H (H_ b t (.tup [.int i,.ref ps[i].1])):=c.trans (C3.new U);have g:=B _ _ (N _ V);refine⟨t,Cv rfl ⟨IV.of A7,rfl,_,Cv rfl (C0 rfl rfl ?_)⟩⟩;refine Cv rfl (Cv rfl ⟨n,X,ps[i].1,ps[i].2.1,ps[i].2.2,rfl,(B.at n).seq Y,g,G,I,Cv rfl ?_⟩);refine P1 ?_;have L:(H_ b t (.tup [.int i,.ref ps[i].1])) p=some (Pg P w p (Ju (ps.take i))):=by rw[B7 J];exact l
   have o:Kz (H_ b t (.tup [.int i,.ref ps[i].1])) (Ju (ps.take i)):=Wn (G6 B λq g=>N q (DF g));have r:∀q∈Ju (ps.take i),q.1≠[.inr ps[i].2.1,.inr ps[i].2.2]:=λq g e=>by
    obtain⟨z,hz,rfl⟩:=BK.mp g;have e':z.2=ps[i].2:=by
     obtain⟨z1,z2,z3⟩:=z;simp only[List.cons.injEq,Sum.inr.injEq,and_true]at e;exact Prod.ext e.1 e.2
    have h1:(ps.map λq=>q.2)[i]?=some ps[i].2:=by rw[AH,d];rfl
    refine a7 hD h1 ?_;rw[<-List.map_take,<-e'];exact BK.mpr ⟨z,hz,rfl⟩
   refine Cv rfl (Cv rfl ⟨p,ps[i].1,_,[.inr ps[i].2.1,.inr ps[i].2.2],rfl,rfl,L,g,o,r,Cv rfl ?_⟩);refine P1 ?_;refine Cv rfl ⟨⟨p,rfl,.inr (.inr ⟨_,L⟩)⟩,Cv rfl ⟨p,ps[i].1,_,[.inr ps[i].2.1,.inr ps[i].2.2],rfl,rfl,L,g,o,r,?_,?_⟩⟩
   .unfold Ju;rw[AB,AZ];lia
   .refine⟨_,Cv rfl ⟨B.upd R,?_⟩⟩;rw[A7,E3 d];unfold Ju;rw[AJ];rfl
  .rintro σ b ⟨D,j,rfl,c,l⟩;exact k b c
def la(kvs:A0 (IS×V))(n:Str):A3:=match X4 kvs (.inr n)with | some (.ref l)=>l | _=>0
def Bz(kvs:A0 (IS×V))(n m:Str)(v:V):X4 (Bd kvs (Sum.inr n:IS) v) (.inr m)=if m=n then some v else X4 kvs (.inr m):=by
 rw[Um];by_cases e:m=n
 .rw[AN e,AN (by rw[e])]
 .rw[AI e,AI (λz=>e (Sum.inr.inj z))]
def Ek(kvs:A0 (IS×V))(n m:Str)(p:A3):la (Bd kvs (.inr n) (.ref p)) m=if m=n then p else la kvs m:=by
 unfold la;rw[Bz];by_cases e:m=n
 .rw[AN e,AN e]
 .rw[AI e,AI e]
structure DOk(H0:Hp)(kvs:A0 (IS×V))(ns:A0 Str):Prop where
 val:∀n∈ns,X4 kvs (.inr n)=some (.ref (la kvs n))
 inj:∀n∈ns,∀m∈ns,la kvs n=la kvs m->n=m
 fr:∀n∈ns,H0 (la kvs n)=none
def Xj{K:VA}{J:It}{a:A3}{ns:A0 Str}{H:Hp}{σ:St}{Q:St->Hp->Prop}(as:NQ J (ns.map V.str) a H)(hσ:∃v,σ = [v])(G:ns.Nodup)(I:ns.length<=1000){D:A3}(y:H D=none)
  (q:∀σ kvs H',C3 H H'->H' D=some (.dK kvs)->DOk H kvs ns->(∀n∈ns,H' (la kvs n)=some (.lst []))->(∀n∈ns,la kvs n≠D)->Q σ H') :
  Ax (P2 0) Ih (Et D (V2 0) (SY Jw)) J σ (H_ H D (.dK [])) Q:=by
 obtain⟨v,rfl⟩:=hσ;refine P8 as (λi σ d=>(∃v,σ = [v])/\∃kvs,C3 H d/\d D=some (.dK kvs)/\kvs.length<=i/\DOk H kvs (ns.take i)/\(∀n∈ns.take i,d (la kvs n)=some (.lst []))/\∀n∈ns.take i,la kvs n≠D)
  ⟨⟨v,rfl⟩,[],C3.new y,A7,CB _,⟨λn h=>by simp at h,λn h=>by simp at h,λn h=>by simp at h⟩,λn h=>by simp at h,λn h=>by simp at h⟩ (λi σ d _ ⟨_,kvs,j,_⟩=>j.at a) ?_ ?_
 .rintro i σ d x N r ⟨⟨v,rfl⟩,kvs,j,u,B,s,l,w⟩ C;rw[AH]at r;have E:i<ns.length:=by
   rcases Nat.lt_or_ge i ns.length with z | z
   .exact z
   .rw[GJ z]at r;cases r
  have t:ns[i]?=some ns[i]:=AF E;rw[t]at r;cases r;refine Cj ?_;refine Cv rfl ⟨CB _,λp o=>?_⟩;have f:D≠p:=B0 u o;refine⟨kvs,.inr ns[i],by rw[B7 f];exact u,rfl,by rw[sizeLine_eq];lia,C _ _ ⟨⟨_,rfl⟩,Bd kvs (.inr ns[i]) (.ref p),?_,A7,?_,⟨?_,?_,?_⟩,?_,?_⟩⟩
  .exact(j.trans (C3.new o)).upd y
  .have:=V4 kvs (Sum.inr ns[i]:IS) (.ref p);lia
  all_goals rw[E3 t]
  .intro n b;rw[Bz,Ek];by_cases e:n=ns[i]
   .rw[AN e,AN e]
   .rw[AI e,AI e];rcases AO.mp b with z | z
    .exact s.val n z
    .exact absurd (AE.mp z) e
  .intro n b m A;rw[Ek,Ek];have c:∀k∈ns.take i ++ [ns[i]],k≠ns[i]->k∈ns.take i:=λk F e=>(AO.mp F).elim id λz=>absurd (AE.mp z) e;by_cases e:n=ns[i]
   .by_cases g:m=ns[i]
    .exact λ_=>e.trans g.symm
    .rw[AN e,AI g];intro z;have:=l m (c m A g);rw[<-z,o]at this;cases this
   .by_cases g:m=ns[i]
    .rw[AI e,AN g];intro z;have:=l n (c n b e);rw[z,o]at this;cases this
    .rw[AI e,AI g];exact s.inj n (c n b e) m (c m A g)
  .intro n b;rw[Ek];by_cases e:n=ns[i]
   .rw[AN e];exact j.free o
   .rw[AI e];rcases AO.mp b with z | z
    .exact s.fr n z
    .exact absurd (AE.mp z) e
  .intro n b;rw[Ek];by_cases e:n=ns[i]
   .rw[AN e,B7 f.symm,A7]
   .rw[AI e];rcases AO.mp b with z | z
    .rw[B7 (w n z),B7 (B0 (l n z) o)];exact l n z
    .exact absurd (AE.mp z) e
  .intro n b;rw[Ek];by_cases e:n=ns[i]
   .rw[AN e];exact f.symm
   .rw[AI e];rcases AO.mp b with z | z
    .exact w n z
    .exact absurd (AE.mp z) e
 .rintro σ d ⟨_,kvs,j,u,B,s,l,w⟩;rw[AB]at *;rw[BS]at *;exact q σ kvs d j u s l w
def B2(a:A0 IQ)(n:Str):A0 Str:=(a.filter λq=>decide (q.2.2=n)).map λq=>q.2.1
def C4(a:A0 IQ)(n:Str):A0 Str:=(a.filter λq=>decide (q.2.1=n)).map λq=>q.2.2
def Br(a:A0 IQ)(q:IQ)(n:Str):B2 (a ++ [q]) n=B2 a n ++(if q.2.2=n then [q.2.1]else []):=by
 unfold B2;rw[CM,AJ];by_cases e:q.2.2=n
 .rw[AN e,BO,AN (AQ e)];rfl
 .rw[AI e,BO,AI (by simp[e])];rfl
def Fo(a:A0 IQ)(q:IQ)(n:Str):C4 (a ++ [q]) n=C4 a n ++(if q.2.1=n then [q.2.2]else []):=by
 unfold C4;rw[CM,AJ];by_cases e:q.2.1=n
 .rw[AN e,BO,AN (AQ e)];rfl
 .rw[AI e,BO,AI (by simp[e])];rfl
def wf(a b c d:A3):A0 (Str×V):=[("names",.ref a),("strikes",.ref b),("strikers_by_name",.ref c),("struck_by_name",.ref d)]
structure TU(ns:A0 Str)(qs:A0 IQ):Prop where
 nd:ns.Nodup
 len:ns.length<=100
 srt:ns.Pairwise NR
 mem:∀q∈qs,q.2.1∈ns/\q.2.2∈ns
 ndq:(qs.map λq=>q.2).Nodup
 lenq:qs.length<=200
 srq:qs.Pairwise QH
structure IR(C:A3)(H:Hp)(x:A3)(ns:A0 Str)(qs:A0 IQ):Prop where
 ok:TU ns qs
 ex:∃dx a b c d kc kd,H x=some (.ins C dx (wf a b c d))/\H a=some (.lst (ns.map V.str))/\H b=some (.lst (G0 qs))/\(∀q∈qs,G9 H q)/\H c=some (.dK kc)/\H d=some (.dK kd) /\
  (∀n∈ns,∃l,X4 kc (.inr n)=some (.ref l)/\H l=some (.lst ((B2 qs n).map V.str)))/\∀n∈ns,∃l,X4 kd (.inr n)=some (.ref l)/\H l=some (.lst ((C4 qs n).map V.str))
theorem KJ:IB ["self","names","strikes","one","other"] ["self","names","strikes"] (B6 MG):=KL
def Bm(K:VA)(C:A3):Sp:=λf H Q _=>∃(x g n:A3) (b:A0 Str) (a:A3) (ps:A0 IQ),f = [.ref x,.ref n,.ref a]/\H x=some (.ins C g [])/\QQ K H n (b.map V.str)/\X6 b /\
 H a=some (.lst (G0 ps))/\(∀q∈ps,G9 H q)/\NT b ps/\∀c d e,c.Perm b->c.Pairwise NR->d.Perm ps->d.Pairwise QH->Sm [x] H e->IR C e x c d->(∀z h u,H z=some (.lst h)->IR C (H_ e z u) x c d)->Q .non e
theorem Q8(T:Tx K mg):IM P w K mg base JR 3 T.bu T.bt ["self","names","strikes"] (Bm K T.ac):=by
 refine T.bv.o1 KJ λcdv A outer s H vs Q E hr h=>?_
 .obtain⟨x,r,n,ss,a,ps,rfl,hx,hS,hN,hP,hI,hO,k⟩:=h;have hu:=Q9 hr;refine⟨_,(A9 (J7 (C9 T.aS (Di T) (Rm hr) (A6 (pv 1) A8)))
   (A9 (J7 (C9 T.aJ (At T) (Rm hr) (A6 (pv 1) (A6 (pv 2) A8))))
   (A9 (RB K (pv 0) (G7 (Vy K) T.av N8 (A6 (pv 1) A8)))
   (A9 (RB K (pv 0) (G7 (Ft K) T.av N8 (A6 (pv 2) A8)))
   (A9 (RB K (pv 0) (Np (N':=["name"]) (cap:=[none]) (cl:=[]) (P0 trivial trivial) rfl (NB K (NE K (pv 0))) (λ_ _ _ _=>by exact⟨(LM 0),P9,(pv 0),(E9 A8)⟩)))
   (A9 (RB K (pv 0) (Np (N':=["name"]) (cap:=[none]) (cl:=[]) (P0 trivial trivial) rfl (NB K (NE K (pv 0))) (λ_ _ _ _=>by exact⟨(LM 0),P9,(pv 0),(E9 A8)⟩)))
   (B5 (U4 PassesOwn.never rfl (NB K (NE K (pv 0))) (RC K (n:=2) (E7 (J0 (i:=3) KJ.nd rfl (.inl rfl)) (E7 (J0 (i:=4) KJ.nd rfl (.inl rfl)) R0)))
   (A9 (J7 (Ph K VG VH VI S0 (X9 hu (NE K (pv 0)) (pv 4) (λ_ _=>rfl)) (A6 (pv 3) A8)))
   (B5 (J7 (Ph K VG VH VI S0 (X9 hu (NE K (pv 0)) (pv 3) (λ_ _=>rfl)) (A6 (pv 4) A8))))))))))))),?_⟩
  obtain⟨hN1,hN2,hN3⟩:=id hN;obtain⟨hO1,hO2,hO3⟩:=id hO;refine B4 λZ1 hZ1=>?_;refine Cv rfl ⟨n,ss,rfl,hS,hN,λH1 s1=>?_⟩;refine hZ1 _ _ (B4 λZ2 hZ2=>?_);refine Cv rfl (Cv rfl ⟨n,ss,a,ps,rfl,(s1.at n).seq hS,II.of (s1 _ _ hP),G6 s1 hI,hO,λH2 s2=>?_⟩);refine hZ2 _ _ (B4 λZ3 hZ3=>?_);have s12:=s1.trans s2;refine Cv rfl ⟨n,ss,rfl,(s12.at n).seq hS,λp j hl1 p1 w1=>?_⟩;have U:x≠p:=B0 (s12 _ _ hx) hl1;refine Cv rfl ⟨x,T.ac,r,[],rfl,by rw[B7 U];exact s12 _ _ hx,T.ag,T.aM,by decide,?_⟩;have hxa:a≠x:=K0 hP hx (by intro z;cases z);have k3:Sm [x] H (H_ (H_ H2 p (.lst (j.map V.str))) x (.ins T.ac r (Q3 "names" (.ref p) []))):=(Sm.new s12.sm hl1).upd (by simp);have e3:(H_ (H_ H2 p (.lst (j.map V.str))) x (.ins T.ac r (Q3 "names" (.ref p) []))) p=some (.lst (j.map V.str)):=by rw[B7 U.symm,A7]
  generalize hH3:H_ (H_ H2 p (.lst (j.map V.str))) x (.ins T.ac r (Q3 "names" (.ref p) []))=H3 at k3 e3⊢;refine hZ3 _ _ (B4 λZ4 hZ4=>?_);have x3:H3 x=some (.ins T.ac r [("names",.ref p)]):=by rw[<-hH3,A7];rfl
  have t:∀{b:A3},b≠x->b∉[x]:=λh z=>h (AE.mp z);have pin3:∀q∈ps,G9 H3 q:=λq J=>k3 _ _ (hI q J) (t (K0 (hI q J) hx (by intro z;cases z)));refine Cv rfl ⟨a,ps,rfl,II.of (k3 _ _ hP (t hxa)),pin3,λB D hl2 p2 w2=>?_⟩;have W:x≠B:=B0 x3 hl2;refine Cv rfl ⟨x,T.ac,r,[("names",.ref p)],rfl,by rw[B7 W];exact x3,T.ag,T.a2,by simp,?_⟩;have k4:Sm [x] H3 (H_ (H_ H3 B (.lst (G0 D))) x (.ins T.ac r (Q3 "strikes" (.ref B) [("names",.ref p)]))):=(Sm.new (Sm.refl _ _) hl2).upd (by simp);have e4:(H_ (H_ H3 B (.lst (G0 D))) x (.ins T.ac r (Q3 "strikes" (.ref B) [("names",.ref p)]))) B=some (.lst (G0 D)):=by rw[B7 W.symm,A7]
  have Z:(H_ (H_ H3 B (.lst (G0 D))) x (.ins T.ac r (Q3 "strikes" (.ref B) [("names",.ref p)]))) x=some (.ins T.ac r [("names",.ref p),("strikes",.ref B)]):=by rw[A7];rfl
  refine hZ4 _ _ ?_;show TH _ _ _ _ (H_ (H_ H3 B (.lst (G0 D))) x (.ins T.ac r (Q3 "strikes" (.ref B) [("names",.ref p)])));generalize H_ (H_ H3 B (.lst (G0 D))) x (.ins T.ac r (Q3 "strikes" (.ref B) [("names",.ref p)]))=H4 at k4 e4 Z⊢;have f4:H4 p=some (.lst (j.map V.str)):=k4 _ _ e3 (t U.symm);have C:∀q∈D,G9 H4 q:=λq J=>k4 _ _ (pin3 q (p2.mem_iff.mp J)) (t (K0 (pin3 q (p2.mem_iff.mp J)) x3 (by intro z;cases z)));have ndn:j.Nodup:=p1.nodup_iff.mpr hN2;have lnn:j.length<=1000:=by rw[p1.length_eq];lia
  refine B4 λZ5 hZ5=>?_;refine Cv rfl ⟨x,T.ac,r,_,Cv rfl ⟨Z,T.ag,T.aM,rfl,p,rfl,⟨_,II.of f4⟩,λc hc=>Xj (K:=K) (PP (II.of f4)) ⟨_,rfl⟩ ndn lnn hc λ_ N H5 s5 e5 D5 c5 n5=>?_⟩⟩;have x5:=s5 _ _ Z;refine Cv rfl ⟨x,T.ac,r,Cv rfl ⟨x5,T.ag,T.aC,by simp,?_⟩⟩;have k6:Sm [x] H5 (H_ H5 x (.ins T.ac r (Q3 "strikers_by_name" (.ref c) [("names",.ref p),("strikes",.ref B)]))):=(Sm.refl _ _).upd (by simp);have x6:(H_ H5 x (.ins T.ac r (Q3 "strikers_by_name" (.ref c) [("names",.ref p),("strikes",.ref B)]))) x=some (.ins T.ac r [("names",.ref p),("strikes",.ref B),("strikers_by_name",.ref c)]):=by rw[A7];rfl
  generalize H_ H5 x (.ins T.ac r (Q3 "strikers_by_name" (.ref c) [("names",.ref p),("strikes",.ref B)]))=H6 at k6 x6⊢;refine hZ5 _ _ (B4 λZ6 hZ6=>?_);have X:∀{b:A3} {o:HO},H4 b=some o->b≠x->H6 b=some o:=λe I=>k6 _ _ (s5 _ _ e) (t I);have f6:=X f4 U.symm;have g6:=X e4 W.symm;have c6:H6 c=some (.dK N):=k6 _ _ e5 (t (B0 Z hc).symm);have cl6:∀n∈j,H6 (la N n)=some (.lst []):=λn f=>k6 _ _ (c5 n f) (t (B0 Z (D5.fr n f)).symm);refine Cv rfl ⟨x,T.ac,r,_,Cv rfl ⟨x6,T.ag,T.aM,rfl,p,rfl,⟨_,II.of f6⟩,λd hd=>Xj (K:=K) (PP (II.of f6)) ⟨_,rfl⟩ ndn lnn hd λ_ O H7 s7 e7 D7 c7 n7=>?_⟩⟩;have x7:=s7 _ _ x6;refine Cv rfl ⟨x,T.ac,r,Cv rfl ⟨x7,T.ag,T.aF,by simp,?_⟩⟩;have k8:Sm [x] H7 (H_ H7 x (.ins T.ac r (Q3 "struck_by_name" (.ref d) [("names",.ref p),("strikes",.ref B),("strikers_by_name",.ref c)]))):=(Sm.refl _ _).upd (by simp);have x8:(H_ H7 x (.ins T.ac r (Q3 "struck_by_name" (.ref d) [("names",.ref p),("strikes",.ref B),("strikers_by_name",.ref c)]))) x=some (.ins T.ac r (wf p B c d)):=by rw[A7];rfl
  generalize H_ H7 x (.ins T.ac r (Q3 "struck_by_name" (.ref d) [("names",.ref p),("strikes",.ref B),("strikers_by_name",.ref c)]))=H8 at k8 x8⊢;refine hZ6 _ _ ?_;have Y:∀{b:A3} {o:HO},H6 b=some o->b≠x->H8 b=some o:=λe I=>k8 _ _ (s7 _ _ e) (t I);have f8:=Y f6 U.symm;have g8:=Y g6 W.symm;have c8:=Y c6 (B0 Z hc).symm;have d8:H8 d=some (.dK O):=k8 _ _ e7 (t (B0 x6 hd).symm);have cl8:∀n∈j,H8 (la N n)=some (.lst []):=λn f=>Y (cl6 n f) (B0 Z (D5.fr n f)).symm;have dl8:∀n∈j,H8 (la O n)=some (.lst []):=λn f=>k8 _ _ (c7 n f) (t (B0 x6 (D7.fr n f)).symm);have pin8:∀q∈D,G9 H8 q:=λq J=>Y (X (C q J) (K0 (C q J) Z (by intro z;cases z))) (K0 (C q J) Z (by intro z;cases z));have dif:∀n∈j,∀m∈j,la N n≠la O m:=λn f m M=>B0 (cl6 n f) (D7.fr m M);have L:∀{b:A3} {o:HO},H4 b=some o->b≠x->(∀n∈j,b≠la N n)/\∀n∈j,b≠la O n:=λe I=>⟨λn f=>B0 e (D5.fr n f),λn f=>B0 (X e I) (D7.fr n f)⟩;have kall:Sm [x] H H8:=λb o e I=>by
   have hb':b≠x:=λz=>I (by simp[z]);exact Y (X (k4 _ _ (k3 _ _ e I) I) hb') hb'
  have odif:∀{b:A3} {o:HO},H b=some o->b≠x->(∀n∈j,b≠la N n)/\∀n∈j,b≠la O n:=λe I=>L (k4 _ _ (k3 _ _ e (t I)) (t I)) I;have xdif:(∀n∈j,x≠la N n)/\∀n∈j,x≠la O n:=⟨λn f=>B0 Z (D5.fr n f),λn f=>B0 x6 (D7.fr n f)⟩;have cdif:(∀n∈j,c≠la N n)/\∀n∈j,c≠la O n:=⟨λn f=>(n5 n f).symm,λn f=>B0 c6 (D7.fr n f)⟩;have ddif:(∀n∈j,d≠la N n)/\∀n∈j,d≠la O n:=⟨λn f=>(B0 (cl6 n f) hd).symm,λn f=>(n7 n f).symm⟩;refine⟨_,rfl,x,T.ac,r,_,_,rfl,x8,T.ag,T.a2,rfl,B,rfl,⟨_,II.of g8⟩,Ge (PP (II.of g8)) (λi σ S=>(∃v3 v4,σ = [some (.ref x),some (.ref n),some (.ref a),v3,v4]) /\
   (∀b o,H8 b=some o->((∀n∈j,b≠la N n)/\∀n∈j,b≠la O n)->S b=some o)/\(∀n∈j,S (la N n)=some (.lst ((B2 (D.take i) n).map V.str)))/\∀n∈j,S (la O n)=some (.lst ((C4 (D.take i) n).map V.str)))
   ⟨⟨_,_,rfl⟩,λb o e _=>e,cl8,dl8⟩ ?_ ?_ ?_⟩
  .rintro i σ S _ ⟨_,R,_⟩ o e;exact R _ _ e (L e4 W.symm)
  .rintro i σ S v hv ⟨⟨v3,v4,rfl⟩,R,h2,h3⟩ D1 hD1 _;unfold G0 at hv;rw[AH]at hv;cases J:D[i]? with
   | none=>rw[J]at hv;cases hv
   | some q =>
    rw[J]at hv;cases hv;have M:q∈D:=BB J;have hq9:G9 S q:=R _ _ (pin8 q M) (L (C q M) (K0 (C q M) Z (by intro z;cases z)));obtain⟨m1,m2⟩:=hO1 q (p2.mem_iff.mp M);have m1:q.2.1∈j:=p1.mem_iff.mpr m1;have m2:q.2.2∈j:=p1.mem_iff.mpr m2;have hlen:∀l:A0 IQ,l.length<=200->∀n,(B2 l n).length<=200/\(C4 l n).length<=200:=λl hl n=>by
     unfold B2 C4;rw[AB,AB];exact⟨VE (BC ..) hl,VE (BC ..) hl⟩
    have hl200:(D.take i).length<=200:=by
     rw[AZ];have:=p2.length_eq;lia
    have x9:S x=some (.ins T.ac r (wf p B c d)):=R _ _ x8 xdif;refine⟨q.1,Cv rfl ⟨IV.of hq9,rfl,_,Cv rfl (C0 rfl rfl ?_)⟩⟩;refine Cv rfl ⟨x,T.ac,r,_,Cv rfl ⟨x9,T.ag,T.aC,rfl,Cv rfl ⟨c,.ref (la N q.2.2),rfl,by rw[<-D5.val _ m2];exact LJ.k (k:=Sum.inr q.2.2) (R _ _ c8 cdif),.inl ⟨rfl,_,II.of (h2 _ m2)⟩,Cv rfl ⟨_,C0 rfl rfl ⟨h2 _ m2,?_,?_⟩⟩⟩⟩⟩
    .rw[AB,sizeLine_eq];have:=(hlen _ hl200 q.2.2).1;lia
    have x10:(H_ S (la N q.2.2) (.lst ((B2 (D.take i) q.2.2).map V.str ++ [.str q.2.1]))) x=some (.ins T.ac r (wf p B c d)):=by rw[B7 (xdif.1 _ m2)];exact x9
    have d10:(H_ S (la N q.2.2) (.lst ((B2 (D.take i) q.2.2).map V.str ++ [.str q.2.1]))) d=some (.dK O):=by rw[B7 (ddif.1 _ m2)];exact R _ _ d8 ddif
    have l10:(H_ S (la N q.2.2) (.lst ((B2 (D.take i) q.2.2).map V.str ++ [.str q.2.1]))) (la O q.2.1)=some (.lst ((C4 (D.take i) q.2.1).map V.str)):=by rw[B7 (dif _ m2 _ m1).symm];exact h3 _ m1
    refine Cv rfl ⟨x,T.ac,r,_,Cv rfl ⟨x10,T.ag,T.aF,rfl,Cv rfl ⟨d,.ref (la O q.2.1),rfl,by rw[<-D7.val _ m1];exact LJ.k (k:=Sum.inr q.2.1) d10,.inl ⟨rfl,_,II.of l10⟩,Cv rfl ⟨_,C0 rfl rfl ⟨l10,?_,?_⟩⟩⟩⟩⟩
    .rw[AB,sizeLine_eq];have:=(hlen _ hl200 q.2.1).2;lia
    refine hD1 _ _ ⟨⟨_,_,rfl⟩,λb o e I=>?_,λm M=>?_,λm M=>?_⟩
    .rw[B7 (I.2 _ m1),B7 (I.1 _ m2)];exact R b o e I
    .rw[B7 (dif m M _ m1),E3 J,Br];by_cases e:q.2.2=m
     .rw[<-e,A7,AN rfl,AJ];rfl
     .rw[AI e,BW,B7 (λz=>e (D5.inj _ M _ m2 z).symm)];exact h2 m M
    .rw[E3 J,Fo];by_cases e:q.2.1=m
     .rw[<-e,A7,AN rfl,AJ];rfl
     .rw[AI e,BW,B7 (λz=>e (D7.inj _ M _ m1 z).symm),B7 (dif _ m2 _ M).symm];exact h3 m M
  .rintro σ S ⟨_,R,h2,h3⟩;have hlq:(G0 D).length=D.length:=by unfold G0;rw[AB]
   rw[hlq,BS]at h2 h3;have mk:∀G:Hp,(∀b o,S b=some o->(b=x\/b=p\/b=B\/b=c\/b=d\/(∃q∈D,b=q.1)\/(∃n∈j,b=la N n)\/∃n∈j,b=la O n)->G b=some o)->IR T.ac G x j D:=λG g =>
    ⟨⟨ndn,by rw[p1.length_eq];exact hN3,w1,λq J=>⟨p1.mem_iff.mpr (hO1 q (p2.mem_iff.mp J)).1,p1.mem_iff.mpr (hO1 q (p2.mem_iff.mp J)).2⟩,(p2.map _).nodup_iff.mpr hO2,by rw[p2.length_eq];exact hO3,w2⟩,r,p,B,c,d,N,O,g _ _ (R _ _ x8 xdif) (.inl rfl),g _ _ (R _ _ f8 (L f4 U.symm)) (.inr (.inl rfl)),g _ _ (R _ _ g8 (L e4 W.symm)) (.inr (.inr (.inl rfl))),
     λq M=>g _ _ (R _ _ (pin8 q M) (L (C q M) (K0 (C q M) Z (by intro z;cases z)))) (.inr (.inr (.inr (.inr (.inr (.inl ⟨q,M,rfl⟩)))))),g _ _ (R _ _ c8 cdif) (.inr (.inr (.inr (.inl rfl)))),g _ _ (R _ _ d8 ddif) (.inr (.inr (.inr (.inr (.inl rfl))))),
     λn f=>⟨_,D5.val n f,g _ _ (h2 n f) (.inr (.inr (.inr (.inr (.inr (.inr (.inl ⟨n,f,rfl⟩)))))))⟩,λn f=>⟨_,D7.val n f,g _ _ (h3 n f) (.inr (.inr (.inr (.inr (.inr (.inr (.inr ⟨n,f,rfl⟩)))))))⟩⟩
   refine k j D S p1 w1 p2 w2 (λb o e I=>?_) (mk S λb o e _=>e) λz zs u hz=>mk _ λb o e I=>?_
   .have hb':b≠x:=λz=>I (by simp[z]);exact R _ _ (kall b o e I) (odif e hb')
   .have zx:z≠x:=K0 hz hx (by intro y;cases y);have z3:=k3 _ _ hz (t zx);have z4:=k4 _ _ z3 (t zx);have nz:b≠z:=by
     rcases I with rfl | rfl | rfl | rfl | rfl | ⟨q,J,rfl⟩ | ⟨n,f,rfl⟩ | ⟨n,f,rfl⟩
     .exact zx.symm
     .exact(B0 (s12 _ _ hz) hl1).symm
     .exact(B0 z3 hl2).symm
     .exact(B0 z4 hc).symm
     .exact(B0 (X z4 zx) hd).symm
     .exact K0 (hI q (p2.mem_iff.mp J)) hz (by intro y;cases y)
     .exact((odif hz zx).1 n f).symm
     .exact((odif hz zx).2 n f).symm
    rw[B7 nz];exact e
def IR.same{C:A3}{H H':Hp}{x:A3}{ns:A0 Str}{g:A0 IQ}(h:IR C H x ns g)(s:C3 H H'):IR C H' x ns g:=by
 obtain⟨i,j,a,b,c,d,k,m,o,p,q,r,t,u,w,y⟩:=h;exact⟨i,j,a,b,c,d,k,m,s _ _ o,s _ _ p,s _ _ q,G6 s r,s _ _ t,s _ _ u,λn f=>let⟨l,v,e⟩:=w n f;⟨l,v,s _ _ e⟩,λn f=>let⟨l,v,e⟩:=y n f;⟨l,v,s _ _ e⟩⟩
theorem As:IB ["self"] ["self"] (B6 LX):=KL
def Gv(C:A3):Sp:=λb H Q _=>∃(x:A3) (a:A0 Str) (c:A0 IQ),b = [.ref x]/\IR C H x a c/\∀l,H l=none->Q (.ref l) (H_ H l (.lst (a.map V.str)))
theorem E6(T:Tx K mg):IM P w K mg base JR 1 T.ab.f T.ab.fd ["self"] (Gv T.ac):=by
 refine T.ab.F.o1 As λg A e s H m Q E n h=>?_
 .obtain⟨x,o,p,rfl,⟨q,i,a,b,c,d,r,t,j,l,u,v,y,z,B,C⟩,k⟩:=h;refine⟨_,(B5 (C1 (Ag (X7 K) T.az S9 (A6 (NE K (pv 0)) A8)))),?_⟩;exact⟨_,rfl,x,T.ac,i,_,_,rfl,j,T.ag,T.aM,rfl,a,_,rfl,.inl (II.of l),k⟩
theorem Ay:IB ["self","name"] ["self","name"] (B6 LW):=KL
def Hx(C:A3):Sp:=λb H Q _=>∃(x:A3) (n:Str) (a:A0 Str) (c:A0 IQ),b = [.ref x,.str n]/\IR C H x a c/\n∈a/\Q .non H
theorem P5(T:Tx K mg):IM P w K mg base JR 1 T.aj.f T.aj.fd ["self","name"] (Hx T.ac):=by
 refine T.aj.F.o1 Ay λg A e s H o Q E p h=>?_
 .obtain⟨x,n,q,r,rfl,⟨t,i,a,b,c,d,u,v,j,l,y,z,B,C,D,G⟩,m,k⟩:=h;refine⟨_,(B5 (M0 (B8 (w9 K) (pv 1) (NE K (pv 0)) rfl) (B5 Z8) D8)),?_⟩;refine Cv rfl (Cv rfl ⟨x,T.ac,i,_,Cv rfl ⟨j,T.ag,T.aM,rfl,U6 (.inl (II.of l)) ⟨_,rfl,?_⟩⟩⟩);rw[AQ m];exact P1 k
theorem w6:IB ["self"] ["self"] (B6 K_):=KL
def Dj(C:A3):Sp:=λb H Q _=>∃(x:A3) (c:A0 Str) (a:A0 IQ),b = [.ref x]/\IR C H x c a/\∀l,H l=none->Q (.ref l) (H_ H l (.lst (G0 a)))
theorem I9(T:Tx K mg):IM P w K mg base JR 1 T.ae.f T.ae.fd ["self"] (Dj T.ac):=by
 refine T.ae.F.o1 w6 λg A e s H m Q E n h=>?_
 .obtain⟨x,o,p,rfl,⟨q,i,a,b,c,d,r,t,j,u,l,v,y,z,B,C⟩,k⟩:=h;refine⟨_,(B5 (C1 (Ag (X7 K) T.az S9 (A6 (NE K (pv 0)) A8)))),?_⟩;exact⟨_,rfl,x,T.ac,i,_,_,rfl,j,T.ag,T.a2,rfl,b,_,rfl,.inl (II.of l),k⟩
theorem Gj:IB ["self","name"] ["self","name"] (B6 NL):=KL
def Qi(C:A3):Sp:=λc H Q _=>∃(x:A3) (n:Str) (a:A0 Str) (b:A0 IQ),c = [.ref x,.str n]/\IR C H x a b/\n∈a/\∀l,H l=none->Q (.ref l) (H_ H l (.lst ((C4 b n).map V.str)))
theorem S7(T:Tx K mg):IM P w K mg base JR 2 T.ap.f T.ap.fd ["self","name"] (Qi T.ac):=by
 refine T.ap.F.o1 Gj λr A g s H C Q E i h=>?_
 .obtain⟨x,n,t,u,rfl,j,o,k⟩:=h;have y:=Q9 i;obtain⟨D,p,a,b,c,d,G,I,q,J,L,M,N,z,O,B⟩:=id j;refine⟨_,(A9 (J7 (N0 (pv 0) T.ag T.aj.m (P5 T) (Rm i) T.aj.b .nil J6 (A6 (pv 1) A8)))
   (B5 (C1 (Ag (X7 K) T.az S9 (A6 (X9 y (NE K (pv 0)) (pv 1) (λ_ _=>rfl)) A8))))),?_⟩
  refine Cv rfl ⟨x,p,Cv rfl ⟨q,rfl,Cv rfl ⟨x,n,t,u,rfl,j,o,?_⟩⟩⟩;obtain⟨l,v,e⟩:=B n o;exact⟨_,rfl,x,T.ac,p,_,_,rfl,q,T.ag,T.aF,rfl,_,rfl,d,_,rfl,by rw[<-v];exact LJ.k (k:=Sum.inr n) z,l,_,rfl,.inl (II.of e),k⟩
theorem Bl:IB ["self","name"] ["self","name"] (B6 MF):=KL
def Ks(C:A3):Sp:=λc H Q _=>∃(x:A3) (n:Str) (a:A0 Str) (b:A0 IQ),c = [.ref x,.str n]/\IR C H x a b/\n∈a/\∀l,H l=none->Q (.ref l) (H_ H l (.lst ((B2 b n).map V.str)))
theorem T0(T:Tx K mg):IM P w K mg base JR 2 T.ar.f T.ar.fd ["self","name"] (Ks T.ac):=by
 refine T.ar.F.o1 Bl λr A g s H C Q E i h=>?_
 .obtain⟨x,n,t,u,rfl,j,o,k⟩:=h;have y:=Q9 i;obtain⟨D,p,a,b,c,d,G,I,q,J,L,M,z,N,B,O⟩:=id j;refine⟨_,(A9 (J7 (N0 (pv 0) T.ag T.aj.m (P5 T) (Rm i) T.aj.b .nil J6 (A6 (pv 1) A8)))
   (B5 (C1 (Ag (X7 K) T.az S9 (A6 (X9 y (NE K (pv 0)) (pv 1) (λ_ _=>rfl)) A8))))),?_⟩
  refine Cv rfl ⟨x,p,Cv rfl ⟨q,rfl,Cv rfl ⟨x,n,t,u,rfl,j,o,?_⟩⟩⟩;obtain⟨l,v,e⟩:=B n o;exact⟨_,rfl,x,T.ac,p,_,_,rfl,q,T.ag,T.aC,rfl,_,rfl,c,_,rfl,by rw[<-v];exact LJ.k (k:=Sum.inr n) z,l,_,rfl,.inl (II.of e),k⟩
def U9{K:VA}{a D:A3}{ts:A0 Str}{r:St}{k:TT}{H:Hp}{Q:St->Hp->Prop}(p:Str->Bool)(e:H a=some (.lst (ts.map V.str)))(w:ts.length<=1000)(l:H D=none)
  (x:∀y∈ts,∀j,C3 H j->∀m:Bool->Hp->Prop,(∀f,C3 j f->m (p y) f)->k (some (.str y)::r) j m) (h:∀σ f,C3 H f->f D=some (.lst ((ts.filter p).map V.str))->Q σ f) (n:A5 V) :
  Ax (P2 0) k (g7 D (V2 0)) (QF K a) (n::r) (H_ H D (.lst [])) Q:=by
 refine P8 (PP (K:=K) (II.of e)) (λi σ g=>(∃v,σ=v::r)/\C3 H g/\g D=some (.lst (((ts.take i).filter p).map V.str)))
  ⟨⟨_,rfl⟩,C3.new l,A7⟩ (λi σ j _ ⟨_,z,_⟩=>z.at a) ?_ ?_
 .rintro i σ g v N o ⟨⟨n,rfl⟩,b,d⟩ q;rw[AH]at o;obtain⟨y,s,rfl⟩:=BF.mp o;refine x y (BB s) g b _ λA t=>?_;have d:=t _ _ d;have b:=b.trans t;have u:(ts.take (i+1)).filter p =(ts.take i).filter p++if p y=true then [y]else []:=by
   rw[E3 s,CM,BO,DQ]
  have B:(((ts.take i).filter p).map V.str).length<=1000:=by
   rw[AB];have:=BC p (ts.take i);rw[AZ]at this;lia
  refine Z7 (λc=>Cv rfl ⟨_,d,by rw[sizeLine_eq];lia,q _ _ ⟨⟨_,rfl⟩,b.upd l,?_⟩⟩) (λc=>q _ _ ⟨⟨_,rfl⟩,b,?_⟩)
  .rw[A7,u,AN c,AJ];rfl
  .rw[u,AI c,BW];exact d
 .rintro σ g ⟨_,b,d⟩;rw[AB,BS]at d;exact h σ g b d
abbrev OU:Str := "in"
abbrev Kc:Str := "out"
abbrev OE:Str := "open"
def WD(kvs:A0 (IS×V))(f:Str->A5 Str):Prop:=∀n,X4 kvs (.inr n) =(f n).map V.str
def Xl(f:Str->A5 Str)(l:A0 Str)(w:Str)(n:Str):A5 Str:=if n∈l then some w else f n
def O8{f:Str->A5 Str}{l:A0 Str}{w n:Str}(h:n∈l):Xl f l w n=some w:=AN h
def J4{f:Str->A5 Str}{l:A0 Str}{w n:Str}(h:n∉l):Xl f l w n=f n:=AI h
def WD.mrg{w:Str}:∀{l:A0 Str} {kvs:A0 (IS×V)} {f:Str->A5 Str},WD kvs f->WD (Y0 kvs (l.map λn=>(Sum.inr n,V.str w))) (Xl f l w)
 | [],_,_,h=>λn=>by rw[J4 A_];exact h n
 | a::l,kvs,f,h=>λn=>by
  have c:WD (Bd kvs (.inr a) (.str w)) (Xl f [a] w):=λm=>by
   rw[Bz];by_cases e:m=a
   .rw[AN e,O8 (AE.mpr e)];rfl
   .rw[AI e,J4 λz=>e (AE.mp z)];exact h m
  refine(WD.mrg (l:=l) c n).trans ?_;by_cases e:n∈l
  .rw[O8 e,O8 (AL _ e)]
  .rw[J4 e];by_cases b:n=a
   .rw[O8 (AE.mpr b),O8 (b▸AX ..)]
   .rw[J4 λz=>b (AE.mp z),J4 λz=>(AU.mp z).elim b e]
def C5(a:A0 IQ)(f:Str->A5 Str)(n:Str):Bool:=((B2 a n).map λy=>decide (f y=some Kc)).all id
def O0(a:A0 IQ)(f:Str->A5 Str)(n:Str):Bool:=((B2 a n).map λy=>decide (f y=some OU)).any id
def OP{b:A0 IQ}{f:Str->A5 Str}{n:Str}:C5 b f n=true↔∀y∈B2 b n,f y=some Kc:=by
 unfold C5;rw[List.all_map,EB];exact⟨λh y a=>BL (h y a),λh y a=>AQ (h y a)⟩
def PH{b:A0 IQ}{f:Str->A5 Str}{n:Str}:O0 b f n=true↔∃y∈B2 b n,f y=some OU:=by
 unfold O0;rw[List.any_map,GU];exact⟨λ⟨y,a,h⟩=>⟨y,a,BL h⟩,λ⟨y,a,h⟩=>⟨y,a,AQ h⟩⟩
def zEo{K:VA}{a D:A3}{ts:A0 Str}{r:St}{l:TE}{H:Hp}{Q:St->Hp->Prop}(g:Str->V)(e:H a=some (.lst (ts.map V.str)))(s:ts.length<=1000)(m:H D=none)
  (t:∀y∈ts,∀d,C3 H d->∀n:VK,(∀b,C3 d b->n (g y) b)->l (some (.str y)::r) d n) (h:∀σ b,C3 H b->b D=some (.lst (ts.map g))->Q σ b) (o:A5 V) :
  Ax (P2 0) Ih (g7 D l) (QF K a) (o::r) (H_ H D (.lst [])) Q:=by
 refine P8 (PP (K:=K) (II.of e)) (λi σ c=>(∃v,σ=v::r)/\C3 H c/\c D=some (.lst ((ts.take i).map g)))
  ⟨⟨_,rfl⟩,C3.new m,A7⟩ (λi σ d _ ⟨_,u,_⟩=>u.at a) ?_ ?_
 .rintro i σ c v N p ⟨⟨o,rfl⟩,f,j⟩ w;rw[AH]at p;obtain⟨y,k,rfl⟩:=BF.mp p;have x:=(AK.mp k).1;refine Cj (t y (BB k) c f _ λz q=>⟨_,q _ _ j,?_,w _ _ ⟨⟨_,rfl⟩,(f.trans q).upd m,?_⟩⟩)
  .rw[AB,AZ,sizeLine_eq];lia
  .rw[A7,E3 k,AJ];rfl
 .rintro σ c ⟨_,f,j⟩;rw[AB,BS]at j;exact h σ c f j
def Lq{K:VA}{a D:A3}{ts:A0 Str}{r:St}{f:TE}{H:Hp}{Q:St->Hp->Prop}(p:Str->Bool)(e:H a=some (.lst (ts.map V.str)))(c:ts.length<=1000)(j:H D=none)
  (k:∀y∈ts,∀d,C3 H d->∀g:VK,(∀b,C3 d b->g (.bl (p y)) b)->f (some (.str y)::r) d g) (h:∀σ b,C3 H b->b D=some (.lst ((ts.map p).map V.bl))->Q σ b) (i:A5 V) :
  Ax (P2 0) Ih (g7 D f) (QF K a) (i::r) (H_ H D (.lst [])) Q:=zEo (λy=>V.bl (p y)) e c j k (λσ b l m=>h σ b l (by rw[m,BQ];rfl)) i
def Ma{K:VA}{a D:A3}{ts:A0 Str}{w:Str}{H:Hp}{Q:St->Hp->Prop}(e:H a=some (.lst (ts.map V.str)))(o:ts.Nodup)(p:ts.length<=1000)(k:H D=none)
  (h:∀σ f,C3 H f->f D=some (.dK (ts.map λn=>(Sum.inr n,V.str w)))->Q σ f) (l:A5 V) :
  Ax (P2 0) Ih (Et D (V2 0) (tC (.str w))) (QF K a) [l] (H_ H D (.dK [])) Q:=by
 refine P8 (PP (K:=K) (II.of e)) (λi σ b=>(∃v,σ = [v])/\C3 H b/\b D=some (.dK ((ts.take i).map λn=>(Sum.inr n,V.str w))))
  ⟨⟨_,rfl⟩,C3.new k,A7⟩ (λi σ t _ ⟨_,q,_⟩=>q.at a) ?_ ?_
 .rintro i σ b v N m ⟨⟨l,rfl⟩,g,d⟩ r;rw[AH]at m;obtain⟨y,j,rfl⟩:=BF.mp m;have u:=(AK.mp j).1;refine Cj (Cv rfl ⟨_,.inr y,d,rfl,?_,r _ _ ⟨⟨_,rfl⟩,g.upd k,?_⟩⟩)
  .rw[AB,AZ,sizeLine_eq];lia
  .rw[A7];unfold Bd;rw[AI,E3 j,AJ];rfl;rw[List.any_map,GU];rintro⟨z,s,c⟩;have c:(Sum.inr z:IS) = .inr y:=BL c;cases c;exact a7 o j s
 .rintro σ b ⟨_,g,d⟩;rw[AB,BS]at d;exact h σ b g d
abbrev Row:Type:=Str×Str×V
def RL(H:Hp)(l:A3)(a:A0 (A3×Row)):Prop:=H l=some (.lst (a.map λq=>V.ref q.1))/\∀q∈a,H q.1=some (.tup [.str q.2.1,.str q.2.2.1,q.2.2.2])
def RL.same{H H':Hp}{l:A3}{a:A0 (A3×Row)}(h:RL H l a)(s:C3 H H'):RL H' l a:=⟨s _ _ h.1,λq b=>s _ _ (h.2 q b)⟩
def RL.app{H H':Hp}{a b c:A3}{d ts:A0 (A3×Row)}(h:RL H a d)(h':RL H b ts)(e:H' c=some (.lst ((d.map λq=>V.ref q.1)++ts.map λq=>V.ref q.1)))(k:∀q o,H q=some (.tup o)->H' q=some (.tup o)):RL H' c (d++ts) :=
 ⟨by rw[e,AJ],λq f=>k _ _ ((AO.mp f).elim (h.2 q) (h'.2 q))⟩
def zAz{K:VA}{a D:A3}{ts:A0 Str}{B:TA}{r:St}{H:Hp}{Q:St->Hp->Prop}{C:TT}(p:Str->Bool)(g:Str->A0 V)(L:∀y,(g y).length<=3)(e:H a=some (.lst (ts.map V.str)))(M:ts.length<=1000)(E:H D=none)(O:∀y d (l:A0 V->Hp->Prop),l (g y) d->B (some (.str y)::r) d l)
  (s:∀y∈ts,∀d,C3 H d->∀l:Bool->Hp->Prop,l (p y) d->C (some (.str y)::r) d l)
  (h:∀σ (b:A0 (A3×Str)) u,C3 H u->u D=some (.lst (b.map λq=>V.ref q.1))->(∀q∈b,u q.1=some (.tup (g q.2)))->b.map (λq=>q.2)=ts.filter p->Q σ u) (F:A5 V) :
  Ax (P2 0) C (g7 D (zFo B)) (QF K a) (F::r) (H_ H D (.lst [])) Q:=by
 refine P8 (PP (K:=K) (II.of e)) (λi σ f=>(∃v,σ=v::r)/\C3 H f/\∃b:A0 (A3×Str),f D=some (.lst (b.map λq=>V.ref q.1))/\(∀q∈b,f q.1=some (.tup (g q.2)))/\b.map (λq=>q.2) =(ts.take i).filter p)
  ⟨⟨_,rfl⟩,C3.new E,[],A7,λq h=>absurd h A_,rfl⟩ (λi σ d _ ⟨_,P,_⟩=>P.at a) ?_ ?_
 .rintro i σ f v N G ⟨⟨F,rfl⟩,m,b,j,n,k⟩ I;rw[AH]at G;obtain⟨y,w,rfl⟩:=BF.mp G;have U:=(AK.mp w).1;have R:=congrArg List.length k;rw[AB]at R;have S:=BC p (ts.take i);rw[AZ]at S;have J:(ts.take (i+1)).filter p =(ts.take i).filter p++if p y=true then [y]else []:=by
   rw[E3 w,CM,BO,DQ]
  refine s y (BB w) f m _ ?_;refine Z7 (λc=>O _ _ _ ⟨VE (L y) (by show 3<=sizeLine;decide),λt s=>?_⟩) (λc=>I _ _ ⟨⟨_,rfl⟩,m,b,j,n,by rw[J,AI c,BW];exact k⟩);have x:=C3.new (o:=.tup (g y)) s;have A:t≠D:=(B0 j s).symm;refine⟨_,x _ _ j,by rw[AB,sizeLine_eq];lia,I _ _ ⟨⟨_,rfl⟩,(m.trans x).upd E,b ++ [(t,y)],by rw[A7,AJ];rfl,λq T=>?_,by rw[J,AN c,AJ,k];rfl⟩⟩;rcases AO.mp T with c | c
  .exact(B7 (K0 (n q c) j (by intro z;cases z))).trans (x _ _ (n q c))
  .rw[AE.mp c];exact(B7 A).trans A7
 .rintro σ f ⟨_,m,b,j,n,k⟩;rw[AB,BS]at k;exact h σ b f m j n k
def Kk{K:VA}{a D:A3}{ts:A0 Str}{w:Str}{v3:V}{j:TE}{r:St}{H:Hp}{Q:St->Hp->Prop}{k:TT}(p:Str->Bool)(e:H a=some (.lst (ts.map V.str)))(g:ts.length<=1000)(m:H D=none)(o:∀y b (c:VK),c v3 b->j (some (.str y)::r) b c)
  (s:∀y∈ts,∀b,C3 H b->∀c:Bool->Hp->Prop,c (p y) b->k (some (.str y)::r) b c)
  (h:∀σ f d,C3 H d->RL d D f->f.map (λq=>q.2) =(ts.filter p).map (λn=>(n,w,v3))->Q σ d) (l:A5 V) :
  Ax (P2 0) k (g7 D (zFo (V9 (V2 0) (V9 (tC (.str w)) (V9 j Jw))))) (QF K a) (l::r) (H_ H D (.lst [])) Q :=
 zAz p (λy=>[.str y,.str w,v3]) (λ_=>VD _) e g m (λy b c i=>⟨_,rfl,o _ _ _ i⟩) s (λσ f d t u v x=>h σ (f.map λq=>(q.1,q.2,w,v3)) d t ⟨by rw[u,BQ];rfl,λq i=>let⟨z,A,e⟩:=BK.mp i;e▸v z A⟩ (by rw[<-x,BQ,BQ];rfl)) l
def y8{l:A0 Str}:l.filter (λ_=>true)=l:=List.filter_eq_self.mpr λ_ _=>rfl
def Kd(C:A3):Sp:=λe H Q _=>∃(x d:A3) (c:A0 Str) (g:A0 IQ) (a:A0 (IS×V)) (f:Str->A5 Str),e = [.ref x,.ref d]/\IR C H x c g/\H d=some (.dK a)/\WD a f/\∀l b,C3 H b->H l=none->b l=some (.lst ((c.filter λn=>(f n).isNone).map V.str))->Q (.ref l) b
theorem Jz:IB ["web","words"] ["web","words"] (B6 OG):=KL
theorem j9(T:Tx K mg):IM P w K mg base JR 2 T.aN.f T.aN.fd ["web","words"] (Kd T.ac):=by
 refine T.aN.F.o1 Jz λz A j s H S Q E r h=>?_
 .obtain⟨x,d,a,B,C,f,rfl,t,G,I,k⟩:=h;have J:=Q9 r;refine⟨_,(B5 (C1 (V5 (N':=["name","words"]) (cap:=[none,some 1]) (cl:=[("words",_)]) (P0 ⟨⟨rfl,rfl,rfl,rfl⟩,trivial⟩ ⟨rfl,trivial⟩) rfl (NB K (J5 (pv 0) T.ag T.ab.m (E6 T) (Rm r) T.ab.b .nil J6)) (λ_ _ _ _=>by exact⟨(LM 0),(K8 (zDf (Te J (pv 0) (pv 1)))),(pv 0)⟩)))),?_⟩;obtain⟨L,M,U,b,c,W,X,Y,N,_⟩:=id t;have Z:=L.len;refine Cv rfl ⟨x,M,Cv rfl ⟨N,rfl,x,a,B,rfl,t,λg l=>?_⟩⟩;have i:=C3.new (o:=.lst (a.map V.str)) l;have p:(H_ H g (.lst (a.map V.str))) g=some (.lst (a.map V.str)):=A7;generalize H_ H g (.lst (a.map V.str))=H2 at i p⊢;refine⟨g,rfl,⟨_,II.of p⟩,λD u=>?_⟩;refine U9 (λn=>(f n).isNone) p (by lia) u (λy hy v q Q' O=>?_) (λσ v q R=>k D v (i.trans q) (i.free u) R) _;refine Cv rfl (Cv rfl ⟨d,_,rfl,LJ.k (k:=Sum.inr y) (q _ _ (i _ _ G)),_,rfl,?_⟩);rw[I y];have e:(!((f y).map V.str).isSome) =(f y).isNone:=by cases f y<;>rfl
  rw[e];exact O _ λb o e=>e
def Nj(C:A3):Sp:=λg H Q _=>∃(x d:A3) (n:Str) (b:A0 Str) (c:A0 IQ) (a:A0 (IS×V)) (f:Str->A5 Str),g = [.ref x,.ref d,.str n]/\IR C H x b c/\n∈b/\H d=some (.dK a)/\WD a f/\∀e,C3 H e->Q (.bl (C5 c f n)) e
def Qx(C:A3):Sp:=λg H Q _=>∃(x d:A3) (n:Str) (b:A0 Str) (c:A0 IQ) (a:A0 (IS×V)) (f:Str->A5 Str),g = [.ref x,.ref d,.str n]/\IR C H x b c/\n∈b/\H d=some (.dK a)/\WD a f/\∀e,C3 H e->Q (.bl (O0 c f n)) e
theorem Xw{H:Hp}{d:A3}{kvs:A0 (IS×V)}{f:Str->A5 Str}{y w:Str}{r:St}{Q:VK}(a:H d=some (.dK kvs))(b:WD kvs f)(h:Q (.bl (decide (f y=some w))) H):OS rEq (Lx (V2 1) (V2 0)) (tC (.str w)) (some (.str y)::some (.ref d)::r) H Q:=by
 refine Cv rfl ⟨d,rfl,.inl ⟨kvs,.inl a⟩,Cv rfl ⟨_,LJ.k (k:=Sum.inr y) a,?_⟩⟩;rw[b y];cases e:f y with
 | none=>rw[e]at h;exact⟨rfl,h⟩
 | some z =>
  rw[e]at h;refine⟨rfl,?_⟩;have g:decide (V.str z=V.str w)=decide (some z=some w):=EL.mpr ⟨λc=>by injection c with c;rw[c],λc=>by injection c with c;rw[c]⟩;show Q (.bl (decide (V.str z=V.str w))) H;rw[g];exact h
theorem Nu:IB ["web","words","name"] ["web","words","name"] (B6 PF):=KL
theorem Tt:IB ["web","words","name"] ["web","words","name"] (B6 PZ):=KL
theorem Pe(T:Tx K mg):IM P w K mg base JR 3 T.bd.f T.bd.fd ["web","words","name"] (Nj T.ac):=by
 refine T.bd.F.o1 Nu λv A i s H U Q E r h=>?_
 .obtain⟨x,d,n,z,a,B,f,rfl,t,C,G,I,k⟩:=h;have J:=Q9 r;refine⟨_,(B5 (C1 (G7 (Sd K) T.bs Ua (A6 (V5 (N':=["striker","words"]) (cap:=[none,some 1]) (cl:=[("words",_)]) (P0 ⟨⟨rfl,rfl,rfl,rfl⟩,trivial⟩ ⟨rfl,trivial⟩) rfl (NB K (N0 (pv 0) T.ag T.ar.m (T0 T) (Rm r) T.ar.b .nil J6 (A6 (pv 2) A8))) (λ_ _ _ _=>by exact⟨(LM 0),P9,(R8 U2 (Y9 J (pv 1) (pv 0) ⟨rfl,rfl,rfl,rfl⟩) B9 (D0 _))⟩)) A8)))),?_⟩;obtain⟨L,M,W,b,c,X,Y,Z,N,_⟩:=id t;have lq:=L.lenq;have ls:(B2 a n).length<=a.length:=by unfold B2;rw[AB];exact BC ..
  refine Cv rfl ⟨x,M,Cv rfl ⟨N,rfl,Cv rfl ⟨x,n,z,a,rfl,t,C,λg j=>?_⟩⟩⟩;have l:=C3.new (o:=.lst ((B2 a n).map V.str)) j;have p:(H_ H g (.lst ((B2 a n).map V.str))) g=some (.lst ((B2 a n).map V.str)):=A7;generalize H_ H g (.lst ((B2 a n).map V.str))=H2 at l p⊢;refine⟨g,rfl,⟨_,II.of p⟩,λD O=>?_⟩;exact Lq (λy=>decide (f y=some Kc)) p (by lia) O (λy hy u q Q' R=>Xw (q _ _ (l _ _ G)) I (R _ λb o e=>e)) (λσ u q S=>⟨D,_,rfl,II.of S,k u (l.trans q)⟩) _
theorem Qe(T:Tx K mg):IM P w K mg base JR 3 T.bg.f T.bg.fd ["web","words","name"] (Qx T.ac):=by
 refine T.bg.F.o1 Tt λv A i s H U Q E r h=>?_
 .obtain⟨x,d,n,z,a,B,f,rfl,t,C,G,I,k⟩:=h;have J:=Q9 r;refine⟨_,(B5 (C1 (G7 (zCi K) T.bI zDw (A6 (V5 (N':=["striker","words"]) (cap:=[none,some 1]) (cl:=[("words",_)]) (P0 ⟨⟨rfl,rfl,rfl,rfl⟩,trivial⟩ ⟨rfl,trivial⟩) rfl (NB K (N0 (pv 0) T.ag T.ar.m (T0 T) (Rm r) T.ar.b .nil J6 (A6 (pv 2) A8))) (λ_ _ _ _=>by exact⟨(LM 0),P9,(R8 U2 (Y9 J (pv 1) (pv 0) ⟨rfl,rfl,rfl,rfl⟩) B9 (D0 _))⟩)) A8)))),?_⟩;obtain⟨L,M,W,b,c,X,Y,Z,N,_⟩:=id t;have lq:=L.lenq;have ls:(B2 a n).length<=a.length:=by unfold B2;rw[AB];exact BC ..
  refine Cv rfl ⟨x,M,Cv rfl ⟨N,rfl,Cv rfl ⟨x,n,z,a,rfl,t,C,λg j=>?_⟩⟩⟩;have l:=C3.new (o:=.lst ((B2 a n).map V.str)) j;have p:(H_ H g (.lst ((B2 a n).map V.str))) g=some (.lst ((B2 a n).map V.str)):=A7;generalize H_ H g (.lst ((B2 a n).map V.str))=H2 at l p⊢;refine⟨g,rfl,⟨_,II.of p⟩,λD O=>?_⟩;exact Lq (λy=>decide (f y=some OU)) p (by lia) O (λy hy u q Q' R=>Xw (q _ _ (l _ _ G)) I (R _ λb o e=>e)) (λσ u q S=>⟨D,_,rfl,II.of S,k u (l.trans q)⟩) _
def bor(x y:Nat):Builtin.bitOr (x:Int) (y:Int) =((x ||| y:Nat):Int):=by
 have b:¬0<=Builtin.bitNot (x:Int):=by unfold Builtin.bitNot;lia
 have c:¬0<=Builtin.bitNot (y:Int):=by unfold Builtin.bitNot;lia
 have a:∀z:Int,Builtin.bitNot (Builtin.bitNot z)=z:=λz=>by unfold Builtin.bitNot;lia
 rw[Builtin.bitOr,PyProof.Rows.bitAnd_nn b c,a,a,a];rfl
def zHb(x y:Nat):Builtin.bitAnd (x:Int) (y:Int) =((x &&& y:Nat):Int):=by simp[Builtin.bitAnd]
def zGt(k:Nat):(1:Int)*2 ^((k:Int).toNat) =((2^k:Nat):Int):=by rw[Int.one_mul,CH,Int.natCast_pow];rfl
def zBu(m k:Nat):decide (V.int (Builtin.bitAnd ((m:Int) / 2 ^((k:Int).toNat)) 1)=V.int 1)=m.testBit k:=by
 have a:(m:Int) / 2 ^((k:Int).toNat) =((m / 2^k:Nat):Int):=by rw[CH,Int.natCast_ediv,Int.natCast_pow];rfl
 have b:Builtin.bitAnd ((m / 2^k:Nat):Int) 1 =((m / 2^k % 2:Nat):Int):=by
  rw[show(1:Int) =((1:Nat):Int)from rfl,zHb,Nat.and_one_is_mod]
 rw[a,b,Nat.testBit_eq_decide_div_mod_eq];refine EL.mpr ⟨λh=>?_,λh=>?_⟩
 .injection h with h;lia
 .rw[h];rfl
def Mw(m:Nat):V:=.int (m:Int)
structure MB(ns:A0 Str)(ks:A0 (Str×Str))(B:A0 Nat):Prop where
 len:B.length=ns.length
 bit:∀i j,(B.getD i 0).testBit j=true↔∃k∈ks,ns[i]?=some k.1/\ns[j]?=some k.2
def MB.zero(ns:A0 Str):MB ns [] (List.replicate ns.length 0):=by
 refine⟨GK,λi j=>?_⟩;have e:(List.replicate ns.length 0).getD i 0=0:=by
  rw[CA,List.getElem?_replicate];by_cases h:i<ns.length
  .rw[AN h];rfl
  .rw[AI h];rfl
 rw[e,FS];simp
def Bi{α:Type}{l:A0 α}(h:l.Nodup){i j:Nat}{x:α}(hi:l[i]?=some x)(c:l[j]?=some x):i=j:=by
 obtain⟨a,e⟩:=AK.mp hi;obtain⟨b,d⟩:=AK.mp c;exact(List.getElem_inj h).mp (e.trans d.symm)
def MB.step{ns:A0 Str}{l:A0 (Str×Str)}{B:A0 Nat}(h:MB ns l B)(m:ns.Nodup){a b:Nat}{x y:Str}(f:ns[a]?=some x)(n:ns[b]?=some y):MB ns (l ++ [(x,y)]) (B.set a (B.getD a 0 ||| 2^b)):=by
 have g:a<B.length:=by rw[h.len];exact(AK.mp f).1
 refine⟨by rw[List.length_set];exact h.len,λi j=>?_⟩;by_cases e:a=i
 .subst e;have e:(B.set a (B.getD a 0 ||| 2^b)).getD a 0=B.getD a 0 ||| 2^b:=by
   rw[CA,HI g];rfl
  rw[e,Nat.testBit_or,Bool.or_eq_true,h.bit,Nat.testBit_two_pow,decide_eq_true_iff];constructor
  .rintro(⟨k,hk,c,d⟩ | rfl)
   .exact⟨k,CQ _ hk,c,d⟩
   .exact⟨(x,y),BN _ (AE.mpr rfl),f,n⟩
  .rintro⟨k,hk,c,d⟩;rcases AO.mp hk with hk | hk
   .exact .inl ⟨k,hk,c,d⟩
   .rw[AE.mp hk]at d;exact .inr (Bi m n d)
 .have o:(B.set a (B.getD a 0 ||| 2^b)).getD i 0=B.getD i 0:=by
   rw[CA,GR e,<-CA]
  rw[o,h.bit];constructor
  .rintro⟨k,hk,c,d⟩;exact⟨k,CQ _ hk,c,d⟩
  .rintro⟨k,hk,c,d⟩;rcases AO.mp hk with hk | hk
   .exact⟨k,hk,c,d⟩
   .rw[AE.mp hk]at c;exact absurd (Bi m f c) e
def Rt{x y:Str}(h:x.cps.toList=y.cps.toList):x=y:=by
 cases x;cases y;exact congrArg Str.mk (Array.toList_inj.mp h)
def Uk{x y:Str}(h1:NR x y)(h2:NR y x):x=y:=Rt (HP (as:=x.cps.toList) (bs:=y.cps.toList) h1 h2)
def K7{a b:A0 Str}(h1:a.Pairwise NR)(h2:b.Pairwise NR)(h:a.Perm b):a=b:=List.Perm.eq_of_pairwise (λ_ _ _ _=>Uk) h1 h2 h
def leK(k l:Str×Str):Prop:=QH (0,k) (0,l)
def Ut{k l:Str×Str}(h1:leK k l)(h2:leK l k):k=l:=by
 have h1:¬TS.JJ (Gk (0,l)) (Gk (0,k))=true:=λz=>by rw[show TS.JJ (Gk (0,l)) (Gk (0,k))=false from h1]at z;cases z
 have h2:¬TS.JJ (Gk (0,k)) (Gk (0,l))=true:=λz=>by rw[show TS.JJ (Gk (0,k)) (Gk (0,l))=false from h2]at z;cases z
 rw[TS.I_]at h1 h2;have a:k.1.cps.toList=l.1.cps.toList:=HP (as:=k.1.cps.toList) (bs:=l.1.cps.toList) (λz=>h1 (.inl z)) (λz=>h2 (.inl z));have b:k.2.cps.toList=l.2.cps.toList:=HP (as:=k.2.cps.toList) (bs:=l.2.cps.toList) (λz=>h1 (.inr ⟨a.symm,z⟩)) (λz=>h2 (.inr ⟨a,z⟩));exact Prod.ext (Rt a) (Rt b)
def QX(nx:Str->A0 Str)(ss:A0 Str)(x:Str):Prop:=∀S:Str->Prop,(∀y∈ss,S y)->(∀y z,S y->z∈nx y->S z)->S x
def QX.of{nx:Str->A0 Str}{ss:A0 Str}{x:Str}(h:x∈ss):QX nx ss x:=λ_ a _=>a x h
def QX.step{nx:Str->A0 Str}{ss:A0 Str}{y z:Str}(h:QX nx ss y)(hz:z∈nx y):QX nx ss z:=λS b a=>a y z (h S b a) hz
def Gw:∀{l m:A0 Str},l.Nodup->(∀x∈l,x∈m)->l.length<=m.length
 | [],_,_,_=>CB _
 | x::l,m,c,h=>by
  obtain⟨d,e⟩:=CL.mp c;have a:=h x (AX ..);have f:=Gw (m:=m.erase x) e λy b=>(List.mem_erase_of_ne (λz:y=x=>d (z▸b))).mpr (h y (AL _ b));rw[List.length_erase_of_mem a]at f;have:=List.length_pos_of_mem a;rw[BR];lia
structure RI(nx:Str->A0 Str)(ns ss se wa:A0 Str)(ex:Str->Prop):Prop where
 nd:se.Nodup
 ndw:wa.Nodup
 sub:∀x∈se,x∈ns
 rch:∀x∈se,QX nx ss x
 beg:∀x∈ss,x∈se
 wai:∀x∈wa,x∈se
 cl:∀x∈se,x∈wa\/ex x\/∀y∈nx x,y∈se
abbrev TR:Str->Prop:=λ_=>False
section
variable{nx:Str->A0 Str}{ns ss se wa:A0 Str}{ex:Str->Prop}
theorem Yg{l:A0 Str}{x:Str}(d:l.Nodup)(f:x∉l):(l ++ [x]).Nodup :=
 CI.mpr ⟨d,CL.mpr ⟨A_,D_⟩,λa g b c e=>f (by rw[AE]at c;exact c▸e▸g)⟩
theorem RI.init(a:ss.Nodup)(sub:∀x∈ss,x∈ns):RI nx ns ss ss ss TR:=⟨a,a,sub,λ_ h=>.of h,λ_ h=>h,λ_ h=>h,λ_ h=>.inl h⟩
theorem RI.add(h:RI nx ns ss se wa ex){x:Str}(b:x∉se)(c:x∈ns)(d:QX nx ss x):RI nx ns ss (se ++ [x]) (wa ++ [x]) ex where
 nd:=Yg h.nd b
 ndw:=Yg h.ndw λz=>b (h.wai x z)
 sub:=λy a=>(AO.mp a).elim (h.sub y) λz=>AE.mp z▸c
 rch:=λy a=>(AO.mp a).elim (h.rch y) λz=>AE.mp z▸d
 beg:=λy a=>CQ _ (h.beg y a)
 wai:=λy a=>(AO.mp a).elim (λz=>CQ _ (h.wai y z)) λz=>BN _ z
 cl:=λy a=>(AO.mp a).elim (λz=>(h.cl y z).elim (λq=>.inl (CQ _ q)) λq=>.inr (q.elim .inl λq=>.inr λv e=>CQ _ (q v e))) λz=>.inl (BN _ z)
theorem RI.pop(h:RI nx ns ss se wa TR){a:A0 Str}{x:Str}(c:a.Nodup)(h1:∀y∈wa,y∈a\/y=x)(h2:∀y∈a,y∈wa):RI nx ns ss se a (λy=>y=x) :=
 ⟨h.nd,c,h.sub,h.rch,h.beg,λy b=>h.wai y (h2 y b),λy b=>(h.cl y b).elim (λq=>(h1 y q).elim .inl λz=>.inr (.inl z)) λq=>q.elim (λz=>z.elim) λz=>.inr (.inr z)⟩
theorem RI.done{x:Str}(h:RI nx ns ss se wa (λy=>y=x))(a:∀y∈nx x,y∈se):RI nx ns ss se wa TR :=
 ⟨h.nd,h.ndw,h.sub,h.rch,h.beg,h.wai,λy b=>(h.cl y b).elim .inl λq=>.inr (.inr (q.elim (λz=>z▸a) id))⟩
theorem RI.fin(h:RI nx ns ss se [] TR)(x:Str):x∈se↔QX nx ss x :=
 ⟨h.rch x,λr=>r (·∈se) h.beg λy z a b=>(h.cl y a).elim (λq=>absurd q A_) λq=>q.elim (λz=>z.elim) λq=>q z b⟩
theorem RI.len(h:RI nx ns ss se wa ex):se.length<=ns.length:=Gw h.nd h.sub
theorem RI.lenw(h:RI nx ns ss se wa ex):wa.length<=ns.length:=Gw h.ndw λx a=>h.sub x (h.wai x a)
end
def six{d n:Nat}(h:d<n):seqIndex? (d:Int) n=some d:=by
 unfold seqIndex?;simp;lia
def JU{α:Type}{l:A0 α}{i:Nat}{x:α}(h:l[i]?=some x):(x::l.eraseIdx i).Perm l:=ST.JU h
def Ie{α β:Type}(f:α->β):∀(l:A0 α) (i:Nat),(l.map f).eraseIdx i =(l.eraseIdx i).map f
 | [],_=>rfl
 | _::_,0=>rfl
 | a::l,i+1=>by
  show f a ::(l.map f).eraseIdx i=f a ::(l.eraseIdx i).map f;rw[Ie f l i]
def Vj{a b c:A0 Str}(d:(b++c).Perm a)(h1:∀x∈a,N9 x=true)(h2:a.Nodup)(f:a.length<=100):X6 c:=by
 refine⟨λx e=>h1 x (d.mem_iff.mp (BN _ e)),?_,?_⟩
 .exact(CI.mp (d.nodup_iff.mpr h2)).2.1
 .have:=d.length_eq;rw[AV]at this;lia
def Ws{c a b:A0 Str}{d:Nat}{x:Str}(e:(a++b).Perm c)(h:a[d]?=some x):(a.eraseIdx d ++(b ++ [x])).Perm c:=by
 refine List.Perm.trans ?_ e;rw[<-BG];refine CY.trans ?_;rw[<-BG];exact(JU h).append_right b
def Le{p b:A3}{H H':Hp}{o:HO}(h:Sm [p] H H')(e:H b=some o)(n:b≠p):H' b=some o:=h b o e λz=>n (AE.mp z)
section
variable{ns l:A0 Str}{A O:(Str->A5 Str)->Str->Bool}{f:Str->A5 Str}{w n:Str}{num:Int}
def wl(ns:A0 Str)(f:Str->A5 Str):A0 Str:=ns.filter λn=>(f n).isNone
def J2(ns:A0 Str)(A:(Str->A5 Str)->Str->Bool)(f:Str->A5 Str):A0 Str:=(wl ns f).filter (A f)
def JH(ns:A0 Str)(A:(Str->A5 Str)->Str->Bool)(f:Str->A5 Str):Str->A5 Str:=Xl f (J2 ns A f) OU
def PJ(ns:A0 Str)(A O:(Str->A5 Str)->Str->Bool)(f:Str->A5 Str):Str->A5 Str:=Xl (JH ns A f) (J2 ns O (JH ns A f)) Kc
def X0(ns:A0 Str)(A O:(Str->A5 Str)->Str->Bool)(f:Str->A5 Str)(num:Int):A0 Row:=((J2 ns A f).map λn=>(n,OU,V.int num)) ++(J2 ns O (JH ns A f)).map λn=>(n,Kc,V.int num)
theorem J_:n∈wl ns f↔n∈ns/\f n=none:=by unfold wl;rw[AY,Option.isNone_iff_eq_none]
theorem Kn(h:n∈J2 ns A f):n∈ns/\f n=none:=J_.mp (AY.mp h).1
theorem zDp(h:∀n∈l,n∈ns/\f n=none)(i:l.Nodup)(j:ns.Nodup):(wl ns (Xl f l w)).length+l.length<=(wl ns f).length:=by
 rw[<-AV];refine Gw (CI.mpr ⟨j.filter _,i,λa k b m e=>?_⟩) λx o=>?_
 .have:=(J_.mp k).2;rw[e,O8 m]at this;cases this
 .rcases AO.mp o with c | c
  .obtain⟨p,g⟩:=J_.mp c;refine J_.mpr ⟨p,?_⟩;by_cases d:x∈l
   .rw[O8 d]at g;cases g
   .rw[J4 d]at g;exact g
  .exact J_.mpr (h x c)
theorem Xx(a:ns.Nodup):(wl ns (Xl f (J2 ns A f) w)).length +(J2 ns A f).length<=(wl ns f).length:=zDp (λ_ h=>Kn h) ((a.filter _).filter _) a
theorem Ps(a:ns.Nodup):(wl ns (PJ ns A O f)).length +(X0 ns A O f num).length<=(wl ns f).length:=by
 have b:(wl ns (JH ns A f)).length+_<=_:=Xx (A:=A) (f:=f) (w:=OU) a;have c:(wl ns (PJ ns A O f)).length+_<=_:=Xx (A:=O) (f:=JH ns A f) (w:=Kc) a;unfold X0;rw[AV,AB,AB];lia
theorem Wg(h:X0 ns A O f num = []):PJ ns A O f=f:=by
 obtain⟨a,b⟩:=List.append_eq_nil_iff.mp h;have a:=G_.mp a;have b:=G_.mp b;have c:JH ns A f=f:=by unfold JH;rw[a];exact funext λn=>J4 A_
 unfold PJ;rw[b,c];exact funext λn=>J4 A_
inductive QB(ns:A0 Str)(A O:(Str->A5 Str)->Str->Bool):(Str->A5 Str)->Int->A0 Row->Prop
 | stop {f:Str->A5 Str} {num:Int}:X0 ns A O f num = []->QB ns A O f num ((wl ns f).map λn=>(n,OE,V.non))
 | step {f:Str->A5 Str} {num:Int} {t:A0 Row}:X0 ns A O f num≠[]->QB ns A O (PJ ns A O f) (num+1) t->QB ns A O f num (X0 ns A O f num++t)
theorem PL:PySem.PyData.strOk OU=true/\PySem.PyData.strOk Kc=true/\PySem.PyData.strOk OE=true:=⟨by decide +kernel,by decide +kernel,by decide +kernel⟩
theorem IT{b:A0 IQ}{n y:Str}:y∈B2 b n↔(y,n)∈b.map λq=>q.2:=by
 unfold B2;rw[BK,BK];constructor
 .rintro⟨q,a,rfl⟩;obtain⟨c,d⟩:=AY.mp a;exact⟨q,c,Prod.ext rfl (BL d)⟩
 .rintro⟨q,a,e⟩;exact⟨q,AY.mpr ⟨a,AQ (congrArg Prod.snd e)⟩,congrArg Prod.fst e⟩
end
inductive GW(sk:Str->A0 Str):Str->Bool->Prop
 | inn {n:Str}:(∀y∈sk n,GW sk y false)->GW sk n true
 | out {n y:Str}:y∈sk n->GW sk y true->GW sk n false
def GW.ne{sk:Str->A0 Str}{n:Str}{b:Bool}(h:GW sk n b):¬GW sk n (!b):=by
 induction h with
 | inn _ a =>
  intro c;cases c with
  | out d g=>exact a _ d g
 | out d _ a =>
  intro c;cases c with
  | inn g=>exact a (g _ d)
def GW.cong{sk a:Str->A0 Str}{U:Str->Prop}(f:∀n,U n->∀y∈sk n,U y)(d:∀n,U n->∀y,y∈sk n↔y∈a n){n:Str}{b:Bool}(h:GW sk n b):U n->GW a n b:=by
 induction h with
 | inn _ e=>exact λu=>.inn λy c=>e y ((d _ u y).mpr c) (f _ u y ((d _ u y).mpr c))
 | out c _ e=>exact λu=>.out ((d _ u _).mp c) (e (f _ u _ c))
open Classical in
def I0(sk:Str->A0 Str)(n:Str):Str:=if GW sk n true then OU else if GW sk n false then Kc else OE
def RO:OU≠Kc/\OU≠OE/\Kc≠OE:=by decide +kernel
section
variable{sk sk':Str->A0 Str}{n:Str}
theorem NG:I0 sk n=OU↔GW sk n true:=by
 unfold I0;by_cases h:GW sk n true
 .rw[AN h];exact⟨λ_=>h,λ_=>rfl⟩
 .rw[AI h];refine⟨λe=>?_,λz=>absurd z h⟩;split at e
  .exact absurd e.symm RO.1
  .exact absurd e.symm RO.2.1
theorem MO:I0 sk n=Kc↔GW sk n false:=by
 unfold I0;by_cases h:GW sk n true
 .rw[AN h];exact⟨λe=>absurd e RO.1,λz=>absurd z h.ne⟩
 .rw[AI h];by_cases a:GW sk n false
  .rw[AN a];exact⟨λ_=>a,λ_=>rfl⟩
  .rw[AI a];exact⟨λe=>absurd e.symm RO.2.2,λz=>absurd z a⟩
theorem Dw{U:Str->Prop}(e:∀n,U n->∀y∈sk n,U y)(c:∀n,U n->∀y,y∈sk n↔y∈sk' n)(u:U n):I0 sk n=I0 sk' n:=by
 have d:∀n,U n->∀y∈sk' n,U y:=λn u y f=>e n u y ((c n u y).mpr f);have i:∀b,GW sk n b↔GW sk' n b:=λb=>⟨λh=>h.cong e c u,λh=>h.cong d (λn u y=>(c n u y).symm) u⟩;unfold I0;by_cases a:GW sk n true
 .rw[AN a,AN ((i _).mp a)]
 .rw[AI a,AI λz=>a ((i _).mpr z)];by_cases b:GW sk n false
  .rw[AN b,AN ((i _).mp b)]
  .rw[AI b,AI λz=>b ((i _).mpr z)]
theorem Lm:PySem.PyData.strOk (I0 sk n)=true:=by
 unfold I0;split
 .exact PL.1
 .split
  .exact PL.2.1
  .exact PL.2.2
end
section
variable{ns:A0 Str}{qs:A0 IQ}{f:Str->A5 Str}
def RY(qs:A0 IQ)(f:Str->A5 Str):Prop:=∀n w,f n=some w->w=I0 (B2 qs) n
theorem RY.nxt1(h:RY qs f):RY qs (JH ns (C5 qs) f):=λn w e=>by
 unfold Sw.JH at e;by_cases c:n∈J2 ns (C5 qs) f
 .rw[O8 c]at e;cases e;have a:=OP.mp (AY.mp c).2;exact(NG.mpr (.inn λy b=>MO.mp (h y _ (a y b)).symm)).symm
 .rw[J4 c]at e;exact h n w e
theorem RY.nxt(h:RY qs f):RY qs (PJ ns (C5 qs) (O0 qs) f):=λn w e=>by
 unfold Sw.PJ at e;by_cases c:n∈J2 ns (O0 qs) (Sw.JH ns (C5 qs) f)
 .rw[O8 c]at e;cases e;obtain⟨y,a,b⟩:=PH.mp (AY.mp c).2;exact(MO.mpr (.out a (NG.mp (h.nxt1 y _ b).symm))).symm
 .rw[J4 c]at e;exact h.nxt1 n w e
theorem Ti{num:Int}(h:RY qs f)(sub:∀n∈ns,∀y∈B2 qs n,y∈ns)(e:X0 ns (C5 qs) (O0 qs) f num = []){n:Str}(a:n∈wl ns f):I0 (B2 qs) n=OE:=by
 obtain⟨k,l⟩:=List.append_eq_nil_iff.mp e;have k:=G_.mp k;have l:=G_.mp l;have p:JH ns (C5 qs) f=f:=by unfold JH;rw[k];exact funext λn=>J4 A_
 rw[p]at l;have i:∀{n:Str} {b:Bool},GW (B2 qs) n b->n∈ns->f n=none->False:=fun{n b} g=>by
  induction g with
  | inn g o =>
   intro a c;have m:_∈J2 ns (C5 qs) f:=AY.mpr ⟨J_.mpr ⟨a,c⟩,OP.mpr λy d=>?_⟩
   .rw[k]at m;cases m
   cases j:f y with
   | none=>exact(o y d (sub _ a y d) j).elim
   | some w=>rw[h y w j,MO.mpr (g y d)]
  | out d g o =>
   intro a c;have m:_∈J2 ns (O0 qs) f:=AY.mpr ⟨J_.mpr ⟨a,c⟩,PH.mpr ⟨_,d,?_⟩⟩
   .rw[l]at m;cases m
   cases j:f _ with
   | none=>exact(o (sub _ a _ d) j).elim
   | some w=>rw[h _ w j,NG.mpr g]
 obtain⟨a,c⟩:=J_.mp a;unfold I0;rw[AI λg=>i g a c,AI λg=>i g a c]
theorem QB.words{num:Int}{r:A0 Row}(h:QB ns (C5 qs) (O0 qs) f num r)(sub:∀n∈ns,∀y∈B2 qs n,y∈ns)(k:ns.Nodup):RY qs f->(∀q∈r,q.2.1=I0 (B2 qs) q.1)/\(r.map λq=>q.1).Perm (wl ns f):=by
 induction h with
 | stop e =>
  refine λs=>⟨λq l=>?_,?_⟩
  .obtain⟨n,i,rfl⟩:=BK.mp l;exact(Ti s sub e i).symm
  .rw[BQ];show(List.map (λn=>n) _).Perm _;rw[List.map_id']
 | @step f num t E _ x =>
  intro s;obtain⟨z,A⟩:=x s.nxt;have m:∀n,n∈J2 ns (C5 qs) f->n∈ns/\f n=none:=λn h=>Kn h;have o:∀n,n∈J2 ns (O0 qs) (Sw.JH ns (C5 qs) f)->n∈ns/\Sw.JH ns (C5 qs) f n=none:=λn h=>Kn h;have B:∀n,n∈J2 ns (C5 qs) f->I0 (B2 qs) n=OU:=λn h=>(s.nxt1 (ns:=ns) n OU (O8 h)).symm;have C:∀n,n∈J2 ns (O0 qs) (Sw.JH ns (C5 qs) f)->I0 (B2 qs) n=Kc:=λn h=>(s.nxt (ns:=ns) n Kc (O8 h)).symm;refine⟨λq l=>?_,?_⟩
  .rcases AO.mp l with c | c
   .rcases AO.mp c with c | c
    .obtain⟨n,i,rfl⟩:=BK.mp c;exact(B n i).symm
    .obtain⟨n,i,rfl⟩:=BK.mp c;exact(C n i).symm
   .exact z q c
  .have e:((X0 ns (C5 qs) (O0 qs) f num++t).map λq=>q.1) =(J2 ns (C5 qs) f++J2 ns (O0 qs) (Sw.JH ns (C5 qs) f))++t.map λq=>q.1:=by
    unfold X0;rw[AJ,AJ,BQ,BQ];congr 2
    .exact List.map_id' _
    .exact List.map_id' _
   rw[e];refine(A.append_left _).trans ?_;have p:(J2 ns (C5 qs) f).Nodup:=(k.filter _).filter _;have u:(J2 ns (O0 qs) (Sw.JH ns (C5 qs) f)).Nodup:=(k.filter _).filter _;refine(List.perm_ext_iff_of_nodup (CI.mpr ⟨CI.mpr ⟨p,u,λa v b w e=>?_⟩,k.filter _,λa v b w e=>?_⟩) (k.filter _)).mpr λn=>?_
   .subst e;have:=(o a w).2;unfold Sw.JH at this;rw[O8 v]at this;cases this
   .subst e;have g:=(J_.mp w).2;unfold Sw.PJ at g;rcases AO.mp v with c | c
    .by_cases d:a∈J2 ns (O0 qs) (Sw.JH ns (C5 qs) f)
     .rw[O8 d]at g;cases g
     .rw[J4 d]at g;unfold Sw.JH at g;rw[O8 c]at g;cases g
    .rw[O8 c]at g;cases g
   .show n∈_++wl ns (Sw.PJ ns (C5 qs) (O0 qs) f)↔n∈wl ns f;rw[AO,AO,J_,J_];constructor
    .rintro((h | h) | h)
     .exact m n h
     .refine⟨(o n h).1,?_⟩;have:=(o n h).2;unfold Sw.JH at this;by_cases d:n∈J2 ns (C5 qs) f
      .exact(m n d).2
      .rwa [J4 d]at this
     .refine⟨h.1,?_⟩;have g:=h.2;unfold Sw.PJ at g;by_cases d:n∈J2 ns (O0 qs) (Sw.JH ns (C5 qs) f)
      .rw[O8 d]at g;cases g
      .rw[J4 d]at g;unfold Sw.JH at g;by_cases j:n∈J2 ns (C5 qs) f
       .exact(m n j).2
       .rwa [J4 j]at g
    .rintro⟨i,D⟩;by_cases d:n∈J2 ns (C5 qs) f
     .exact .inl (.inl d)
     by_cases j:n∈J2 ns (O0 qs) (Sw.JH ns (C5 qs) f)
     .exact .inl (.inr j)
     refine .inr ⟨i,?_⟩;unfold Sw.PJ;rw[J4 j];unfold Sw.JH;rw[J4 d];exact D
def WG(ns:A0 Str)(qs:A0 IQ)(n:Str):A5 Str:=if n∈ns then some (I0 (B2 qs) n)else none
theorem zBs{n:Str}(h:n∈ns):WG ns qs n=some (I0 (B2 qs) n):=AN h
end
def Wt{H H':Hp}{d b:A3}{o:HO}(k:Sm [d] H H')(e:H' d=some o)(h:H' b=none):H b=none:=by
 cases a:H b with
 | none=>rfl
 | some c =>
  have:=Le k a (B0 e h).symm;rw[h]at this;cases this
def C3.smd{a H H':Hp}{d:A3}(s:C3 a H)(h:a d=none)(k:Sm [d] H H'):C3 a H':=λb o e=>Le k (s b o e) (B0 e h)
def Hy(C:A3):Sp:=λj H Q _=>∃(g:Hp) (x d:A3) (num:Int) (h:A0 Str) (c:A0 IQ) (b:A0 (IS×V)) (f:Str->A5 Str),j = [.ref x,.ref d,.int num]/\C3 g H/\g d=none/\IR C g x h c/\H d=some (.dK b)/\WD b f/\b.length<=1000 /\
 ∀l i a e,Sm [d] H e->H l=none->RL e l i->i.map (λq=>q.2)=X0 h (C5 c) (O0 c) f num->e d=some (.dK a)->WD a (PJ h (C5 c) (O0 c) f)->a.length<=b.length+i.length->Q (.ref l) e
theorem LK:IB ["web","words","number","ins","outs"] ["web","words","number"] (B6 NW):=KL
set_option maxHeartbeats 4000000 in
theorem Ap(T:Tx K mg):IM P w K mg base JR 4 T.aR.f T.aR.fd ["web","words","number"] (Hy T.ac):=by
 refine T.aR.F.o1 LK λcdv A outer s H vs Q E hr h=>?_
 .obtain⟨H0,x,d,num,b,a,m,f,rfl,s0,hd0,hW,hd,hf,hk,k⟩:=h;refine⟨_,(A9 (W9 (i:=3) (N':=["name","web","words"]) (cap:=[none,some 0,some 1]) (cl:=[("words",_),("web",_)]) LK.nd rfl (.inl rfl) (P0 ⟨⟨rfl,rfl,rfl,rfl⟩,⟨⟨rfl,rfl,rfl,rfl⟩,trivial⟩⟩ ⟨rfl,⟨rfl,trivial⟩⟩) rfl (NB K (C9 T.aN (j9 T) (Rm hr) (A6 (pv 0) (A6 (pv 1) A8)))) (λ_ _ _ _=>by exact⟨(LM 0),(K8 (Q6 (C9 T.bd (Pe T) (Rm hr) (A6 (pv 1) (A6 (pv 2) (A6 (pv 0) A8)))))),(pv 0)⟩))
   (A9 (J7 (Jy (pv 1) (Np (N':=["name"]) (cap:=[none]) (cl:=[]) (P0 trivial trivial) rfl (NB K (pv 3)) (λ_ _ _ _=>by exact⟨(LM 0),P9,(pv 0),B9⟩)) ⟨rfl,rfl,rfl,rfl⟩))
   (A9 (W9 (i:=4) (N':=["name","web","words"]) (cap:=[none,some 0,some 1]) (cl:=[("words",_),("web",_)]) LK.nd rfl (.inl rfl) (P0 ⟨⟨rfl,rfl,rfl,rfl⟩,⟨⟨rfl,rfl,rfl,rfl⟩,trivial⟩⟩ ⟨rfl,⟨rfl,trivial⟩⟩) rfl (NB K (C9 T.aN (j9 T) (Rm hr) (A6 (pv 0) (A6 (pv 1) A8)))) (λ_ _ _ _=>by exact⟨(LM 0),(K8 (Q6 (C9 T.bg (Qe T) (Rm hr) (A6 (pv 1) (A6 (pv 2) (A6 (pv 0) A8)))))),(pv 0)⟩))
   (A9 (J7 (Jy (pv 1) (Np (N':=["name"]) (cap:=[none]) (cl:=[]) (P0 trivial trivial) rfl (NB K (pv 4)) (λ_ _ _ _=>by exact⟨(LM 0),P9,(pv 0),B9⟩)) ⟨rfl,rfl,rfl,rfl⟩))
   (B5 (C1 (E8 Dr (V5 (N':=["name","number"]) (cap:=[none,some 2]) (cl:=[("number",_)]) (P0 ⟨⟨rfl,rfl,rfl,rfl⟩,trivial⟩ ⟨rfl,trivial⟩) rfl (NB K (pv 3)) (λ_ _ _ _=>by exact⟨(LM 0),P9,(J3 (A6 (pv 0) (A6 B9 (A6 (pv 1) A8))))⟩)) (V5 (N':=["name","number"]) (cap:=[none,some 2]) (cl:=[("number",_)]) (P0 ⟨⟨rfl,rfl,rfl,rfl⟩,trivial⟩ ⟨rfl,trivial⟩) rfl (NB K (pv 4)) (λ_ _ _ _=>by exact⟨(LM 0),P9,(J3 (A6 (pv 0) (A6 B9 (A6 (pv 1) A8))))⟩))))))))),?_⟩
  have ok:=hW.ok;have ln:=ok.len;have nn:=ok.nd;have p:∀g:Str->A5 Str,(wl b g).length<=100:=λg=>VE (BC ..) ln;have li:(J2 b (C5 a) f).length<=100:=VE (BC ..) (p _);have lo:(J2 b (O0 a) (JH b (C5 a) f)).length<=100:=VE (BC ..) (p _);refine B4 λN1 hN1=>?_;refine Cv rfl (Cv rfl ⟨x,d,b,a,m,f,rfl,hW.same s0,hd,hf,λl1 H1 s1 hl1 e1=>?_⟩);refine⟨l1,rfl,⟨_,II.of e1⟩,λO U=>?_⟩;refine U9 (C5 a f) e1 (VE (p f) (by decide)) U (λy W G u X hQ=>?_) (λσ H2 s2 v=>?_) _
  .refine Cv rfl (Cv rfl (Cv rfl ⟨x,d,y,b,a,m,f,rfl,(hW.same s0).same (s1.trans u),(J_.mp W).1,(s1.trans u) _ _ hd,hf,λG' B=>⟨_,rfl,hQ G' B⟩⟩))
  have v:H2 O=some (.lst ((J2 b (C5 a) f).map V.str)):=v;have C:=s1.trans s2;have r:=C _ _ hd;refine hN1 _ _ (B4 λN2 hN2=>?_);refine Cv rfl ⟨d,rfl,.inl ⟨_,.inl r⟩,Cv rfl ⟨O,rfl,⟨_,II.of v⟩,λE1 D=>?_⟩⟩;refine Ma v ((nn.filter _).filter _) (VE li (by decide)) D (λσ H3 Y e3=>?_) _;have I:=Y _ _ r;have R:=hf.mrg (w:=OU) (l:=J2 b (C5 a) f);have m1:=T8 m ((J2 b (C5 a) f).map λn=>(Sum.inr n,V.str OU));rw[AB]at m1;refine⟨E1,m,_,rfl,I,e3,(B0 r D),by rw[AB,sizeLine_eq];lia,hN2 _ _ (B4 λN3 hN3=>?_)⟩;have n1:O≠d:=K0 (Y _ _ v) I (by intro z;cases z);have k4:Sm [d] H (H_ H3 d (.dK (Y0 m ((J2 b (C5 a) f).map λn=>(Sum.inr n,V.str OU))))):=(C.trans Y).sm.upd (by simp);have Z:(H_ H3 d (.dK (Y0 m ((J2 b (C5 a) f).map λn=>(Sum.inr n,V.str OU))))) d=some (.dK (Y0 m ((J2 b (C5 a) f).map λn=>(Sum.inr n,V.str OU)))):=A7;have e4:(H_ H3 d (.dK (Y0 m ((J2 b (C5 a) f).map λn=>(Sum.inr n,V.str OU))))) O=some (.lst ((J2 b (C5 a) f).map V.str)):=(B7 n1).trans (Y _ _ v);generalize Y0 m ((J2 b (C5 a) f).map λn=>(Sum.inr n,V.str OU))=j at R m1 k4 Z e4⊢;generalize H_ H3 d (.dK j)=H4 at k4 Z e4⊢;have W4:=hW.same (C3.smd s0 hd0 k4);have R:WD j (JH b (C5 a) f):=R;clear s1 s2 C Y e1 v e3 r I hl1 U D;refine Cv rfl (Cv rfl ⟨x,d,b,a,j,JH b (C5 a) f,rfl,W4,Z,R,λl2 H5 s5 hl2 e5=>?_⟩);refine⟨l2,rfl,⟨_,II.of e5⟩,λD2 hD2=>?_⟩;refine U9 (O0 a (JH b (C5 a) f)) e5 (VE (p _) (by decide)) hD2 (λy W G u X hQ=>?_) (λσ H6 s6 S=>?_) _
  .refine Cv rfl (Cv rfl (Cv rfl ⟨x,d,y,b,a,j,JH b (C5 a) f,rfl,W4.same (s5.trans u),(J_.mp W).1,(s5.trans u) _ _ Z,R,λG' B=>⟨_,rfl,hQ G' B⟩⟩))
  have S:H6 D2=some (.lst ((J2 b (O0 a) (JH b (C5 a) f)).map V.str)):=S;have J:=s5.trans s6;have L:=J _ _ Z;refine hN3 _ _ (B4 λN4 hN4=>?_);refine Cv rfl ⟨d,rfl,.inl ⟨_,.inl L⟩,Cv rfl ⟨D2,rfl,⟨_,II.of S⟩,λE2 hE2=>?_⟩⟩;refine Ma S ((nn.filter _).filter _) (VE lo (by decide)) hE2 (λσ H7 s7 e7=>?_) _;have hd7:=s7 _ _ L;have k2:=R.mrg (w:=Kc) (l:=J2 b (O0 a) (JH b (C5 a) f));have m2:=T8 j ((J2 b (O0 a) (JH b (C5 a) f)).map λn=>(Sum.inr n,V.str Kc));rw[AB]at m2;refine⟨E2,j,_,rfl,hd7,e7,(B0 L hE2),by rw[AB,sizeLine_eq];lia,hN4 _ _ ?_⟩;have n2:D2≠d:=K0 (s7 _ _ S) hd7 (by intro z;cases z);have k8:Sm [d] H (H_ H7 d (.dK (Y0 j ((J2 b (O0 a) (JH b (C5 a) f)).map λn=>(Sum.inr n,V.str Kc))))):=(k4.trans (J.trans s7).sm).upd (by simp);have d8:(H_ H7 d (.dK (Y0 j ((J2 b (O0 a) (JH b (C5 a) f)).map λn=>(Sum.inr n,V.str Kc))))) d=some (.dK (Y0 j ((J2 b (O0 a) (JH b (C5 a) f)).map λn=>(Sum.inr n,V.str Kc)))):=A7;have a8:(H_ H7 d (.dK (Y0 j ((J2 b (O0 a) (JH b (C5 a) f)).map λn=>(Sum.inr n,V.str Kc))))) O=some (.lst ((J2 b (C5 a) f).map V.str)):=(B7 n1).trans (s7 _ _ (J _ _ e4));have b8:(H_ H7 d (.dK (Y0 j ((J2 b (O0 a) (JH b (C5 a) f)).map λn=>(Sum.inr n,V.str Kc))))) D2=some (.lst ((J2 b (O0 a) (JH b (C5 a) f)).map V.str)):=(B7 n2).trans (s7 _ _ S);generalize Y0 j ((J2 b (O0 a) (JH b (C5 a) f)).map λn=>(Sum.inr n,V.str Kc))=M at k2 m2 k8 d8 a8 b8⊢;generalize H_ H7 d (.dK M)=H8 at k8 d8 a8 b8⊢;have k2:WD M (PJ b (C5 a) (O0 a) f):=k2;refine Cv rfl ⟨O,rfl,⟨_,II.of a8⟩,λR1 hR1=>?_⟩;refine Kk (v3:=.int num) (λ_=>true) a8 (VE li (by decide)) hR1 (λy G X N=>⟨_,rfl,N⟩) (λy W G u X N=>N) (λσ rs1 H9 s9 L9 q9=>?_) _;rw[y8]at q9;refine Cv rfl ⟨D2,rfl,⟨_,II.of (s9 _ _ b8)⟩,λR2 hR2=>?_⟩;refine Kk (v3:=.int num) (λ_=>true) (s9 _ _ b8) (VE lo (by decide)) hR2 (λy G X N=>⟨_,rfl,N⟩) (λy W G u X N=>N) (λσ rs2 HA sA LA qA=>?_) _;rw[y8]at qA;have L9:=L9.same sA;have lr1:=congrArg List.length q9;have lr2:=congrArg List.length qA;rw[AB,AB]at lr1 lr2;refine⟨R1,R2,_,_,rfl,rfl,L9.1,LA.1,by rw[AB,AB,sizeLine_eq];lia,λc hc=>?_⟩;have uB:=C3.new (o:=.lst ((rs1.map λq=>V.ref q.1)++rs2.map λq=>V.ref q.1)) hc;have t:=s9.trans sA;refine k c (rs1++rs2) M _ (k8.trans (t.trans uB).sm) (Wt (k8.trans t.sm) (t _ _ d8) hc) (L9.app LA A7 λq o e=>uB _ _ e) ?_ (uB _ _ (t _ _ d8)) k2 (by rw[AV];lia);rw[AJ,q9,qA];rfl
def RL.smd{H H':Hp}{l d:A3}{a:A0 (A3×Row)}{kvs:A0 (IS×V)}(h:RL H l a)(e:H d=some (.dK kvs))(k:Sm [d] H H'):RL H' l a :=
 ⟨Le k h.1 (K0 h.1 e (by intro z;cases z)),λq b=>Le k (h.2 q b) (K0 (h.2 q b) e (by intro z;cases z))⟩
def zCp(H:Hp)(ns:A0 Str)(c:A0 IQ)(d:Str->A5 Str)(Q:VK):Prop:=∀l a b,C3 H b->H l=none->RL b l a->QB ns (C5 c) (O0 c) d 1 (a.map λq=>q.2)->a.length<=100->Q (.ref l) b
def Sq(C:A3):Sp:=λf H Q _=>∃(x d:A3) (b:A0 Str) (e:A0 IQ) (a:A0 (IS×V)) (c:Str->A5 Str),f = [.ref x,.ref d]/\IR C H x b e/\H d=some (.dK a)/\WD a c/\a.length +(wl b c).length<=100/\zCp H b e c Q
theorem IZ:IB ["web","known","words","rows","number","fresh"] ["web","known"] (B6 LQ):=KL
set_option maxHeartbeats 4000000 in
theorem Av(T:Tx K mg):IM P w K mg base JR 5 T.aI.f T.aI.fd ["web","known"] (Sq T.ac):=by
 refine T.aI.F.o1 IZ λcdv A outer s H vs Q E hr h=>?_
 .obtain⟨x,d0,ns,N,p,f0,rfl,hW,hd0,hf0,l0,k⟩:=h;refine⟨_,(A9 (C6 (i:=2) IZ.nd rfl (.inl rfl) (Ag Ro T.bm Jm (A6 (pv 1) A8)))
   (A9 (C6 (i:=3) IZ.nd rfl (.inl rfl) (E9 A8))
   (A9 (C6 (i:=4) IZ.nd rfl (.inl rfl) B3)
   (A9 (C6 (i:=5) IZ.nd rfl (.inl rfl) (C9 T.aR (Ap T) (Rm hr) (A6 (pv 0) (A6 (pv 2) (A6 (pv 4) A8)))))
   (A9 (Fe PassesOwn.never (ptV K (pv 5)) (A9 (J7 (Ph K VG PySem.F.slot_list_extend PySem.F.type_list_extend Tn (pv 3) (A6 (pv 5) A8)))
   (A9 (zEk (i:=4) IZ.nd rfl (Or.inl rfl) B3 zFf)
   (B5 (C6 (i:=5) IZ.nd rfl (.inl rfl) (C9 T.aR (Ap T) (Rm hr) (A6 (pv 0) (A6 (pv 2) (A6 (pv 4) A8)))))))))
   (B5 (C1 (E8 Dr (pv 3) (V5 (N':=["name"]) (cap:=[none]) (cl:=[]) (P0 trivial trivial) rfl (NB K (C9 T.aN (j9 T) (Rm hr) (A6 (pv 0) (A6 (pv 2) A8)))) (λ_ _ _ _=>by exact⟨(LM 0),P9,(J3 (A6 (pv 0) (A6 B9 (A6 i6 A8))))⟩)))))))))),?_⟩
  have ok:=hW.ok;have ln:=ok.len;have nn:=ok.nd;unfold zCp at k;generalize hA:C5 N=A at k;generalize hO:O0 N=O at k;have R:∀g:Str->A5 Str,(wl ns g).length<=100:=λg=>VE (BC ..) ln;refine B4 λN1 hN1=>?_;refine Cv rfl ⟨d0,_,rfl,hd0,λd S=>?_⟩;have u1:=C3.new (o:=.dK p) S;have f1:(H_ H d (.dK p)) d=some (.dK p):=A7;generalize H_ H d (.dK p)=H1 at u1 f1⊢;refine hN1 _ _ (B4 λN2 hN2=>?_);refine⟨CB _,λr U=>?_⟩;have W:=C3.new (o:=.lst []) U;have f2:(H_ H1 r (.lst [])) r=some (.lst []):=A7;generalize H_ H1 r (.lst [])=H2 at W f2⊢;have hr':=u1.free U;refine hN2 _ _ (B4 λN3 hN3=>?_);refine hN3 _ _ (B4 λN4 hN4=>?_);refine Cv rfl (Cv rfl (Cv rfl ⟨H,x,d,1,ns,N,p,f0,rfl,u1.trans W,S,hW,W _ _ f1,hf0,by lia,λl B a H3 k3 hl L3 q3 e3 X RQ=>?_⟩));rw[hA,hO]at q3 X;have L2:RL H2 r []:=⟨f2,λq h=>absurd h A_⟩;have lr:l≠r:=(B0 f2 hl).symm;have rw0:=Ps (ns:=ns) (A:=A) (O:=O) (f:=f0) (num:=1) nn;have lw0:=R f0;have lq:=congrArg List.length q3;rw[AB]at lq;refine hN4 _ _ (B4 λN5 hN5=>?_);refine⟨λm σ v=>∃(num:Int) (l:A3) (a:A0 (IS×V)) (f:Str->A5 Str) (n B:A0 (A3×Row)),σ = [some (.ref x),some (.ref d0),some (.ref d),some (.ref r),some (.int num),some (.ref l)]/\C3 H v/\v d=some (.dK a)/\WD a (PJ ns A O f)/\RL v r n/\RL v l B/\l≠r /\
   B.map (λq=>q.2)=X0 ns A O f num/\(∀t,QB ns A O f num t->QB ns A O f0 1 ((n.map λq=>q.2)++t))/\m =(wl ns (PJ ns A O f)).length+B.length/\a.length +(wl ns (PJ ns A O f)).length<=100/\n.length+m<=100,⟨_,1,l,a,_,[],B,rfl,C3.smd (u1.trans W) S k3,e3,X,L2.smd (W _ _ f1) k3,L3,lr,q3,λt h=>h,rfl,by lia,by show 0+_<=_;lia⟩,?_⟩
  rintro m σ v ⟨num,l,a,f,n,B,rfl,s4,e4,C,u,Ll,nlr,I,W4,rfl,Y,ld4⟩;refine Cv rfl ⟨_,.inl ⟨_,II.of Ll.1,rfl⟩,?_⟩;cases B with
  | nil =>
   refine P1 (hN5 _ _ ?_);have I:=I.symm;rw[Wg I]at C Y ld4;refine Cv rfl (Cv rfl (Cv rfl ⟨x,d,ns,N,a,f,rfl,hW.same s4,e4,C,λl1 H5 Z hl1 M=>⟨l1,rfl,⟨_,II.of M⟩,λD hD=>?_⟩⟩));refine Kk (v3:=.non) (r:=[]) (λ_=>true) M (VE (R f) (by decide)) hD (λy G Q' hq=>hq) (λy hy G sg Q' hq=>hq) (λσ j H6 s6 L6 J=>?_) _;rw[y8]at J;have s56:=Z.trans s6;have u:=u.same s56;have l2:=congrArg List.length J;rw[AB,AB]at l2;have l2:j.length =(wl ns f).length:=l2;have l0:([]:A0 (A3×Row)).length=0:=rfl;refine⟨r,D,_,_,rfl,rfl,u.1,L6.1,by rw[AB,AB,sizeLine_eq];lia,λc hc=>?_⟩;have u7:=C3.new (o:=.lst ((n.map λq=>V.ref q.1)++j.map λq=>V.ref q.1)) hc;have s46:=s4.trans s56;exact k c (n++j) _ (s46.trans u7) (s46.free hc) (u.app L6 A7 λq o e=>u7 _ _ e) (by rw[AJ,J];exact W4 _ (.stop I)) (by rw[AV];lia)
  | cons L b =>
   refine X3 ⟨_,λ_ _ z=>z,B4 λM1 hM1=>?_⟩;refine Cv rfl ⟨.inl ⟨rfl,_,II.of u.1⟩,Cv rfl ⟨r,l,_,_,rfl,rfl,u.1,Ll.1,by rw[AB,AB,sizeLine_eq];lia,hM1 _ _ (B4 λM2 hM2=>?_)⟩⟩;have Z:=s4.upd (o:=.lst ((n.map λq=>V.ref q.1) ++(L::b).map λq=>V.ref q.1)) hr';have nrd:r≠d:=K0 u.1 e4 (by intro z;cases z);have M:(H_ v r (.lst ((n.map λq=>V.ref q.1) ++(L::b).map λq=>V.ref q.1))) d=some (.dK a):=(B7 nrd.symm).trans e4;have L5:RL (H_ v r (.lst ((n.map λq=>V.ref q.1) ++(L::b).map λq=>V.ref q.1))) r (n++L::b):=u.app Ll A7 λq o e=>(B7 (K0 e u.1 (by intro z;cases z))).trans e;have ne:X0 ns A O f num≠[]:=λc=>by rw[c]at I;cases I
   generalize H_ v r (.lst ((n.map λq=>V.ref q.1) ++(L::b).map λq=>V.ref q.1))=H5 at Z M L5⊢;have lc:(L::b).length=b.length+1:=rfl;refine Cv rfl ⟨_,_,rfl,rfl,hM2 _ _ ?_⟩;refine Cv rfl (Cv rfl (Cv rfl ⟨H,x,d,num+1,ns,N,a,_,rfl,Z,S,hW,M,C,by lia,λl' j kv2 H6 k6 hl6 L6 J e6 wd6 len6=>?_⟩));rw[hA,hO]at J wd6;have rwl:=Ps (ns:=ns) (A:=A) (O:=O) (f:=PJ ns A O f) (num:=num+1) nn;have l6:=congrArg List.length J;rw[AB]at l6;refine⟨(wl ns (PJ ns A O (PJ ns A O f))).length+j.length,by lia,_,l',kv2,PJ ns A O f,n++L::b,j,rfl,C3.smd Z S k6,e6,wd6,L5.smd M k6,L6,(B0 L5.1 hl6).symm,J,λt ht=>?_,rfl,by lia,by rw[AV];lia⟩;rw[AJ,I,BG];exact W4 _ (.step ne ht)
def Ul{n e w m:Nat}(h:e+1<=n)(a:2 *(n-e)+w<m):2 *(n-(e+1)) +(w+1)<m:=by
 have b:n-(e+1)+1=n-e:=Nat.succ_pred_eq_of_pos (HG h);rw[<-b]at a;lia
def Ug(H:Hp)(kvs:A0 (IS×V))(ns:A0 Str)(nx:Str->A0 Str):Prop:=∀n∈ns,∃l,X4 kvs (.inr n)=some (.ref l)/\H l=some (.lst ((nx n).map V.str))
def zHd(H:Hp)(ns ss:A0 Str)(nx:Str->A0 Str)(Q:VK):Prop:=∀(l:A3) (ts:A0 Str) (a:Hp),C3 H a->H l=none->a l=some (.lst (ts.map V.str))->ts.Nodup->ts.Pairwise NR->(∀x,x∈ts↔QX nx ss x)->(∀x∈ts,x∈ns)->Q (.ref l) a
def Oj(K:VA):Sp:=λg H Q _=>∃(d a:A3) (c:A0 (IS×V)) (b e:A0 Str) (f:Str->A0 Str),g = [.ref d,.ref a]/\H d=some (.dK c)/\Ug H c b f/\(∀n∈b,∀y∈f n,y∈b)/\b.length<=100/\(∀y∈e,y∈b)/\e.Nodup/\QQ K H a (e.map V.str)/\zHd H b e f Q
theorem zDn{H:Hp}{p:A3}{x:Str}{a:A0 Str}{Q:VK}(e:H p=some (Bq w p a))(q:Q (.bl (!decide (x∈a))) H):zHl w true (.str x) (.ref p) H Q:=⟨p,a,x,rfl,rfl,e,q⟩
theorem KU:IB ["steps","some","seen","waiting","here","name"] ["steps","some"] (B6 OX):=KL
set_option maxHeartbeats 1000000 in
theorem Pf(T:Tx K mg):IM P w K mg base JR 1 T.be.f T.be.fd ["steps","some"] (Oj K):=by
 refine T.be.F.o1 KU λcdv A outer s H vs Q E hr h=>?_
 .obtain⟨d,a,kvs,J,g,L,rfl,hd,hv,hc,hl,B,C,hS,k⟩:=h;have hu:=Q9 hr;refine⟨_,(A9 (C6 (i:=2) KU.nd rfl (.inl rfl) (Ag (Yx K w) T.br So (A6 (pv 1) A8)))
   (A9 (C6 (i:=3) KU.nd rfl (.inl rfl) (Ag (X7 K) T.az S9 (A6 (pv 1) A8)))
   (A9 (Fe PassesOwn.never (ptV K (pv 3)) (A9 (C6 (i:=4) KU.nd rfl (.inl rfl) (zGq K VG PySem.F.slot_list_pop PySem.F.type_list_pop zBx (pv 3)))
   (B5 (U4 PassesOwn.never rfl (NB K (X9 hu (pv 0) (pv 4) (λ_ _=>rfl))) (J0 (i:=5) KU.nd rfl (.inl rfl))
   (B5 (M0 (B8 Fi (pv 5) (pv 2) rfl) (A9 (J7 (Tq P w (zDg w) (pv 2) (A6 (pv 5) A8)))
   (B5 (J7 (Ph K VG VH VI S0 (pv 3) (A6 (pv 5) A8))))) D8))))))
   (B5 (C1 (G7 (Vi w) T.av N8 (A6 (pv 2) A8))))))),?_⟩
  have hls:=Gw C B;refine B4 λZ1 hZ1=>?_;refine Cv rfl ⟨a,g,rfl,hS,C,by lia,λp hp=>?_⟩;have Z:=C3.new (o:=Bq w p g) hp;have f1:(H_ H p (Bq w p g)) p=some (Bq w p g):=A7;generalize H_ H p (Bq w p g)=H1 at Z f1⊢;refine hZ1 _ _ (B4 λZ2 hZ2=>?_);refine Cv rfl ⟨a,_,rfl,(Z.at a).seq hS,λq hq=>?_⟩;have u2:=C3.new (o:=.lst (g.map V.str)) hq;have f2:(H_ H1 q (.lst (g.map V.str))) q=some (.lst (g.map V.str)):=A7;generalize H_ H1 q (.lst (g.map V.str))=H2 at u2 f2⊢;have D:p≠q:=B0 f1 hq;have R:=Z.free hq;refine hZ2 _ _ (B4 λZ3 hZ3=>?_);refine⟨λm σ G=>∃v4 M r S,σ = [some (.ref d),some (.ref a),some (.ref p),some (.ref q),v4,M]/\m=2 *(J.length-r.length)+S.length/\C3 H G/\G p=some (Bq w p r)/\G q=some (.lst (S.map V.str))/\RI L J g r S TR,
   ⟨_,none,none,g,g,rfl,rfl,Z.trans u2,u2 _ _ f1,f2,.init C B⟩,?_⟩
  rintro m σ G ⟨v4,M,r,S,rfl,rfl,s3,e3,g3,R3⟩;refine Cv rfl ⟨_,.inl ⟨_,II.of g3,rfl⟩,?_⟩;rcases List.eq_nil_or_concat S with rfl | ⟨e,x,rfl⟩
  .refine P1 (hZ3 _ _ ?_);refine Cv rfl ⟨p,r,rfl,e3,λl ts hl pm so=>?_⟩;have u4:=C3.new (o:=.lst (ts.map V.str)) hl;exact k l ts _ (s3.trans u4) (s3.free hl) A7 (pm.nodup_iff.mpr R3.nd) so (λy=>pm.mem_iff.trans (R3.fin y)) λy t=>R3.sub y (pm.mem_iff.mp t)
  .rw[List.concat_eq_append]at *;rw[AN (by simp)];refine⟨_,λ_ _ z=>z,B4 λN1 hN1=>?_⟩;have R4:RI L J g r e (λy=>y=x):=R3.pop (CI.mp R3.ndw).1 (λy t=>(AO.mp t).imp id AE.mp) λy t=>CQ _ t;have hx:x∈r:=R3.wai x (BN _ (AE.mpr rfl));refine Cv rfl ⟨.inl ⟨rfl,_,II.of g3⟩,q,_,.str x,rfl,rfl,g3,by simp,?_⟩;have ed:((e ++ [x]).map V.str).dropLast=e.map V.str:=by simp
   rw[ed];have s4:=s3.upd (o:=.lst (e.map V.str)) R;have g4:(H_ G q (.lst (e.map V.str))) q=some (.lst (e.map V.str)):=A7;have e4:(H_ G q (.lst (e.map V.str))) p=some (Bq w p r):=(B7 D).trans e3;generalize H_ G q (.lst (e.map V.str))=H4 at s4 g4 e4⊢;refine hN1 _ _ ?_;obtain⟨l,vl,el⟩:=hv x (R3.sub x hx);refine Cv rfl (Cv rfl ⟨d,.ref l,rfl,by rw[<-vl];exact LJ.k (k:=Sum.inr x) (s4 _ _ hd),l,rfl,⟨_,II.of (s4 _ _ el)⟩,?_⟩);refine Ge (PP (K:=K) (II.of el)) (λi σ u=>∃M b c,σ = [some (.ref d),some (.ref a),some (.ref p),some (.ref q),some (.str x),M]/\2 *(J.length-b.length)+c.length<2 *(J.length-r.length) +(e ++ [x]).length/\C3 H u/\u p=some (Bq w p b)/\u q=some (.lst (c.map V.str))/\RI L J g b c (λy=>y=x)/\x∈b/\∀y∈(L x).take i,y∈b)
    ⟨_,r,e,rfl,by rw[AV];exact FA _,s4,e4,g4,R4,hx,λy t=>absurd t A_⟩ ?_ ?_ ?_
   .rintro i σ u _ ⟨_,_,_,_,_,N,_⟩;exact N.at l
   .rintro i σ u v U ⟨M,b,c,rfl,hm,N,O,g5,I,j,t5⟩ D1 W _;rw[AH]at U;obtain⟨y,t,rfl⟩:=BF.mp U;have X:y∈L x:=BB t;have ht:∀{n:A0 Str},(∀z∈b,z∈n)->y∈n->∀z∈(L x).take (i+1),z∈n:=λh1 h2 z hz=>by
     rw[E3 t]at hz;exact(AO.mp hz).elim (λq=>h1 z (t5 z q)) λq=>AE.mp q▸h2
    refine Cv rfl (Cv rfl (zDn O ⟨_,rfl,Z7 (λh=>?_) λh=>?_⟩))
    .have Y:y∉b:=λz=>by rw[AQ z]at h;cases h
     have en:Xp b y=b ++ [y]:=AI Y;have R6:=I.add Y (hc x (I.sub x j) y X) ((I.rch x j).step X);have l6:=R6.len;have lw:=I.lenw;refine B4 λO1 hO1=>?_;refine Cv rfl ⟨⟨p,rfl,.inr (.inl ⟨_,O⟩)⟩,Cv rfl ⟨p,b,y,rfl,rfl,O,by rw[AV,GL]at l6;lia,?_⟩⟩;rw[en];have s6:=N.upd (o:=Bq w p (b ++ [y])) hp;have e6:(H_ u p (Bq w p (b ++ [y]))) p=some (Bq w p (b ++ [y])):=A7;have g6:(H_ u p (Bq w p (b ++ [y]))) q=some (.lst (c.map V.str)):=(B7 D.symm).trans g5;generalize H_ u p (Bq w p (b ++ [y]))=H6 at s6 e6 g6⊢;refine hO1 _ _ ?_;refine Cv rfl ⟨.inl ⟨rfl,_,II.of g6⟩,Cv rfl ⟨q,_,_,rfl,rfl,g6,by rw[AB,sizeLine_eq];lia,W _ _ ⟨_,b ++ [y],c ++ [y],rfl,?_,s6.upd R,(B7 D).trans e6,?_,R6,CQ _ j,ht (λz hz=>CQ _ hz) (BN _ (AE.mpr rfl))⟩⟩⟩
     .rw[AV,GL]at l6⊢;rw[AV,GL];exact Ul l6 hm
     .rw[A7,AJ];rfl
    .have hys:y∈b:=by
      by_cases z:y∈b
      .exact z
      .rw[AM z]at h;exact absurd rfl h
     exact W _ _ ⟨_,b,c,rfl,hm,N,O,g5,I,j,ht (λ_ z=>z) hys⟩
   .rintro σ u ⟨M,b,c,rfl,hm,N,O,g5,I,j,t5⟩;rw[AB,BS]at t5;exact⟨_,hm,_,_,b,c,rfl,rfl,N,O,g5,I.done t5⟩
def Uu{J:It}{a:A3}{ns:A0 Str}{H:Hp}{Q:St->Hp->Prop}{u:TE}{nx:Str->A0 Str}{k:A5 V}(as:NQ J (ns.map V.str) a H)(L:ns.length<=1000){D:A3}(w:H D=none)
  (E:∀n∈ns,∀b,C3 H b->∀y:VK,(∀l d,C3 b d->b l=none->d l=some (.lst ((nx n).map V.str))->y (.ref l) d)->u [some (.str n),k] b y)
  (q:∀σ kvs H',C3 H H'->H' D=some (.dK kvs)->Ug H' kvs ns nx->Q σ H') :
  Ax (P2 0) Ih (Et D (V2 0) u) J [none,k] (H_ H D (.dK [])) Q:=by
 refine P8 as (λi σ b=>(∃v,σ = [v,k])/\∃kvs,C3 H b/\b D=some (.dK kvs)/\kvs.length<=i/\∀n∈ns.take i,∃l,l≠D/\X4 kvs (.inr n)=some (.ref l)/\b l=some (.lst ((nx n).map V.str)))
  ⟨⟨_,rfl⟩,[],C3.new w,A7,CB _,λn h=>absurd h A_⟩ (λi σ b _ ⟨_,kvs,c,_⟩=>c.at a) ?_ ?_
 .rintro i σ b x N A ⟨⟨v,rfl⟩,kvs,c,f,F,g⟩ G;rw[AH]at A;obtain⟨m,o,rfl⟩:=BF.mp A;have M:i<ns.length:=(AK.mp o).1;refine Cj ?_;refine Cv rfl (E m (BB o) b c _ λp d r I K=>?_);refine⟨kvs,.inr m,r _ _ f,rfl,by rw[sizeLine_eq];lia,G _ _ ⟨⟨_,rfl⟩,Bd kvs (.inr m) (.ref p),(c.trans r).upd w,A7,?_,λn j=>?_⟩⟩
  .have:=V4 kvs (Sum.inr m:IS) (.ref p);lia
  .rw[Bz];by_cases e:n=m
   .rw[AN e,e];have B:p≠D:=(B0 f I).symm;exact⟨p,B,rfl,(B7 B).trans K⟩
   .rw[AI e];rw[E3 o]at j;obtain⟨l,C,s,t⟩:=g n ((AO.mp j).elim id λz=>absurd (AE.mp z) e);exact⟨l,C,s,(B7 C).trans (r _ _ t)⟩
 .rintro σ b ⟨_,kvs,c,f,F,g⟩;rw[AB,BS]at g;exact q σ kvs b c f λn j=>let⟨l,_,s,t⟩:=g n j;⟨l,s,t⟩
def Ai{ns:A0 Str}{a:A0 IQ}(h:∀q∈a,q.2.1∈ns/\q.2.2∈ns):∀n∈ns,∀y∈C4 a n,y∈ns:=λn _ y b=>by
 obtain⟨q,c,rfl⟩:=BK.mp b;exact(h q (AY.mp c).1).2
def U3{ns:A0 Str}{a:A0 IQ}(h:∀q∈a,q.2.1∈ns/\q.2.2∈ns):∀n∈ns,∀y∈B2 a n,y∈ns:=λn _ y b=>by
 obtain⟨q,c,rfl⟩:=BK.mp b;exact(h q (AY.mp c).1).1
def Sn(K:VA)(C:A3):Sp:=λe H Q _=>∃(x a:A3) (c b:A0 Str) (d:A0 IQ),e = [.ref x,.ref a]/\IR C H x c d/\(∀y∈b,y∈c)/\b.Nodup/\QQ K H a (b.map V.str)/\zHd H c b (C4 d) Q
theorem Qa:IB ["web","some"] ["web","some"] (B6 P6):=KL
theorem Qk(T:Tx K mg):IM P w K mg base JR 3 T.bh.f T.bh.fd ["web","some"] (Sn K T.ac):=by
 refine T.bh.F.o1 Qa λS A t s H vs Q E j h=>?_
 .obtain⟨x,a,e,U,u,rfl,v,i,y,W,k⟩:=h;have hu:=Q9 j;refine⟨_,(B5 (C1 (C9 T.be (Pf T) (Rm j) (A6 (Np (N':=["name","web"]) (cap:=[none,some 0]) (cl:=[("web",_)]) (P0 ⟨⟨rfl,rfl,rfl,rfl⟩,trivial⟩ ⟨rfl,trivial⟩) rfl (NB K (J5 (pv 0) T.ag T.ab.m (E6 T) (Rm j) T.ab.b .nil J6)) (λ_ _ _ _=>by exact⟨(LM 0),P9,(pv 0),(N0 (pv 1) T.ag T.ap.m (S7 T) (Rm j) T.ap.b .nil J6 (A6 (pv 0) A8))⟩)) (A6 (pv 1) A8))))),?_⟩;obtain⟨z,N,a1,b,c,d,kc,kd,O,_⟩:=id v;refine Cv rfl ⟨x,N,Cv rfl ⟨O,rfl,x,e,u,rfl,v,λp B=>?_⟩⟩;have q:=C3.new (o:=.lst (e.map V.str)) B;have C:(H_ H p (.lst (e.map V.str))) p=some (.lst (e.map V.str)):=A7;generalize H_ H p (.lst (e.map V.str))=H2 at q C⊢;refine⟨p,rfl,⟨_,II.of C⟩,λD X=>?_⟩;refine Uu (nx:=C4 u) (PP (K:=K) (II.of C)) (by have:=z.len;lia) X (λn Y H1 R Q' Z=>?_) λσ G H3 s3 e3 I=>?_
  .have W1:=(v.same q).same R;refine Cv rfl ⟨x,N,Cv rfl ⟨R _ _ (q _ _ O),rfl,Cv rfl ⟨x,n,e,u,rfl,W1,Y,λl r=>?_⟩⟩⟩;exact Z l _ (C3.new r) r A7
  .have g:=q.trans s3;refine Cv rfl ⟨D,a,G,e,U,_,rfl,e3,I,Ai z.mem,z.len,i,y,(g.at a).seq W,λl ts H4 s4 r e4 J L m4 M=>?_⟩;exact k l ts H4 (g.trans s4) (g.free r) e4 J L m4 M
def Ms(a:IS×V):∀(l c:A0 (IS×V)),Y0 c (l ++ [a])=Bd (Y0 c l) a.1 a.2
 | [],_=>rfl
 | b::l,c=>Ms a l (Bd c b.1 b.2)
def Ba:∀{more b:A0 (IS×V)},((b++more).map λk=>k.1).Nodup->Y0 b more=b++more
 | [],b,_=>(BW b).symm
 | a::m,b,h=>by
  have c:X4 b a.1=none:=by
   cases e:X4 b a.1 with
   | none=>rfl
   | some v =>
    rw[AJ,BM]at h;exact absurd rfl ((CI.mp h).2.2 _ (Qs e) _ (AX ..))
  show Y0 (Bd b a.1 a.2) m=_;rw[Md a.2 c,Ba (by rw[BG];exact h),BG];rfl
def Nd(f:Str->A5 Str)(l:A0 Str)(g:Str->Str)(n:Str):A5 Str:=if n∈l then some (g n)else f n
def WD.mrgG{g:Str->Str}:∀{l:A0 Str} {kvs:A0 (IS×V)} {f:Str->A5 Str},WD kvs f->WD (Y0 kvs (l.map λn=>(Sum.inr n,V.str (g n)))) (Nd f l g)
 | [],_,_,h=>λn=>(h n).trans (by unfold Nd;rw[AI A_])
 | a::l,kvs,f,h=>λn=>by
  have c:WD (Bd kvs (.inr a) (.str (g a))) (Nd f [a] g):=λm=>by
   rw[Bz];unfold Nd;by_cases e:m=a
   .rw[AN e,AN (AE.mpr e),e];rfl
   .rw[AI e,AI λz=>e (AE.mp z)];exact h m
  refine(WD.mrgG (l:=l) c n).trans ?_;unfold Nd;by_cases e:n∈l
  .rw[AN e,AN (AL _ e)]
  .rw[AI e];by_cases b:n=a
   .rw[AN (AE.mpr b),AN (b▸AX ..)]
   .rw[AI λz=>b (AE.mp z),AI λz=>(AU.mp z).elim b e]
def Wx{K:VA}{J:It}{a C:A3}{b:A0 (A3×Row)}{H:Hp}{Q:St->Hp->Prop}(as:NQ J (b.map λq=>V.ref q.1) a H)(o:∀q∈b,H q.1=some (.tup [.str q.2.1,.str q.2.2.1,q.2.2.2]))(p:b.length<=1000)(m:H C=none)
  (h:∀σ k,C3 H k->k C=some (.dK (Y0 [] (b.map λq=>((Sum.inr q.2.1:IS),V.str q.2.2.1))))->Q σ k) (d e f:A5 V) :
  Ax (SV K 3 (Dk (P2 0) (Dk (P2 1) (Dk (P2 2) TJ)))) Ih (Et C (V2 0) (V2 1)) J [d,e,f] (H_ H C (.dK [])) Q:=by
 refine P8 as (λi σ c=>(∃d e f,σ = [d,e,f])/\C3 H c/\c C=some (.dK (Y0 [] ((b.take i).map λq=>((Sum.inr q.2.1:IS),V.str q.2.2.1)))))
  ⟨⟨_,_,_,rfl⟩,C3.new m,A7⟩ (λi σ w _ ⟨_,r,_⟩=>r.at a) ?_ ?_
 .rintro i σ c v N n ⟨⟨d,e,f,rfl⟩,g,j⟩ s;rw[AH]at n;obtain⟨y,l,rfl⟩:=BF.mp n;have x:=(AK.mp l).1;have t:=g _ _ (o y (BB l));refine⟨y.1,Cv rfl ⟨IV.of t,rfl,_,Cv rfl ⟨_,Cv rfl (C0 rfl rfl ?_)⟩⟩⟩;have u:=T8 [] ((b.take i).map λq=>((Sum.inr q.2.1:IS),V.str q.2.2.1));rw[AB,AZ]at u;have A:([]:A0 (IS×V)).length=0:=rfl;show Et C (V2 0) (V2 1) [some (.str y.2.1),some (.str y.2.2.1),some y.2.2.2] c N;refine Cv rfl (Cv rfl ⟨_,Sum.inr y.2.1,j,rfl,by rw[sizeLine_eq];lia,s _ _ ⟨⟨_,_,_,rfl⟩,g.upd m,?_⟩⟩);rw[A7,E3 l,AJ];exact congrArg (λz=>some (HO.dK z)) (Ms (Sum.inr y.2.1,V.str y.2.2.1) _ _).symm
 .rintro σ c ⟨_,g,j⟩;rw[AB,BS]at j;exact h σ c g j
def zCf(H:Hp)(ns:A0 Str)(d:A0 IQ)(Q:VK):Prop:=∀l a b,C3 H b->H l=none->b l=some (.dK a)->WD a (WG ns d)->(∀c:A0 Str,(a.map λq=>q.1)=c.map Sum.inr->c.Perm ns->Q (.ref l) b)
theorem LO:IB ["web","stay","given"] ["web","stay"] (B6 L_):=KL
def Oi(C:A3):Sp:=λf H Q _=>∃(x d:A3) (a:A0 Str) (b:A0 IQ) (c:A0 Str) (e:Str->Str),f = [.ref x,.ref d]/\IR C H x a b/\H d=some (.dK (c.map λn=>(Sum.inr n,V.str (e n))))/\c.Nodup/\(∀n∈c,n∈a/\e n=I0 (B2 b) n)/\zCf H a b Q
set_option maxHeartbeats 4000000 in
theorem Y1(T:Tx K mg):IM P w K mg base JR 6 T.aD.f T.aD.fd ["web","stay"] (Oi T.ac):=by
 refine T.aD.F.o1 LO λcdv A N s H vs Q E hr h=>?_
 .obtain⟨x,d0,u,r,j,m,rfl,hW,v,nk,J,q⟩:=h;refine⟨_,(A9 (C6 (i:=2) LO.nd rfl (.inl rfl) (Ag Ro T.bm Jm (A6 (pv 1) A8)))
   (A9 (J7 (Jy (pv 2) (Np (N':=["name","word","number"]) (cap:=[none,none,none]) (cl:=[]) (P0 trivial trivial) rfl (NB K (C9 T.aI (Av T) (Rm hr) (A6 (pv 0) (A6 (pv 1) A8)))) (λ_ _ _ _=>by exact⟨(RC K (n:=3) (E7 (LM 0) (E7 (LM 1) (E7 (LM 2) R0)))),P9,(pv 0),(pv 1)⟩)) ⟨rfl,rfl,rfl,rfl⟩))
   (B5 (C1 (pv 2))))),?_⟩
  have O:=hW.ok;have ln:=O.len;have y:=O.nd;refine B4 λN1 R=>?_;refine Cv rfl ⟨d0,_,rfl,v,λd S=>?_⟩;have L:=C3.new (o:=.dK (j.map λn=>((Sum.inr n:IS),V.str (m n)))) S;have M:(H_ H d (.dK (j.map λn=>((Sum.inr n:IS),V.str (m n))))) d=some (.dK (j.map λn=>((Sum.inr n:IS),V.str (m n)))):=A7;generalize H_ H d (.dK (j.map λn=>((Sum.inr n:IS),V.str (m n))))=H1 at L M⊢;have B:WD (j.map λn=>((Sum.inr n:IS),V.str (m n))) (Nd (λ_=>none) j m):=by
   have h1:Y0 [] (j.map λn=>((Sum.inr n:IS),V.str (m n))) = []++j.map λn=>((Sum.inr n:IS),V.str (m n)):=Ba (by
    rw[GB,BQ];exact List.Pairwise.map _ (λa b h e=>h (Sum.inr.inj e)) nk)
   have h2:=WD.mrgG (l:=j) (kvs:=[]) (f:=λ_=>none) (g:=m) λn=>rfl;rw[h1]at h2;exact h2
  have U:RY r (Nd (λ_=>none) j m):=λn w e=>by
   unfold Nd at e;by_cases c:n∈j
   .rw[AN c]at e;rw[<-BU e];exact(J n c).2
   .rw[AI c]at e;cases e
  have p:∀n,n∈wl u (Nd (λ_=>none) j m)↔n∈u/\n∉j:=λn=>by
   rw[J_];unfold Nd;by_cases c:n∈j
   .rw[AN c];exact⟨λz=>(by cases z.2),λz=>absurd c z.2⟩
   .rw[AI c];exact⟨λz=>⟨z.1,c⟩,λz=>⟨z.1,rfl⟩⟩
  have C:(j++wl u (Nd (λ_=>none) j m)).Perm u:=(List.perm_ext_iff_of_nodup (CI.mpr ⟨nk,y.filter _,λa ha b hb e=>((p b).mp hb).2 (e▸ha)⟩) y).mpr λn=>by
   rw[AO];refine Iff.trans (or_congr Iff.rfl (p n)) ?_;by_cases c:n∈j
   .exact⟨λ_=>(J n c).1,λ_=>.inl c⟩
   .exact⟨λz=>z.elim (λz=>absurd z c) λz=>z.1,λz=>.inr ⟨z,c⟩⟩
  have lk:=C.length_eq;rw[AV]at lk;refine R _ _ (B4 λN2 W=>?_);refine Cv rfl ⟨_,rfl,.inl ⟨_,.inl M⟩,?_⟩;refine Cv rfl (Cv rfl ⟨x,d0,u,r,_,_,rfl,hW.same L,L _ _ v,B,by rw[AB];lia,λl t H2 s2 hl L2 S2 OO=>?_⟩);refine⟨l,rfl,⟨_,II.of L2.1⟩,λD X=>?_⟩;refine Wx (PP (K:=K) (II.of L2.1)) L2.2 (by lia) X (λσ H3 s3 e3=>?_) _ _ _;obtain⟨w2,Y⟩:=S2.words (U3 O.mem) y U;generalize wl u (Nd (λ_=>none) j m)=ws at C lk Y p;have Z:(t.map λq=>q.2.1).Nodup:=by
   have:=Y.nodup_iff.mpr ((CI.mp (C.nodup_iff.mpr y)).2.1)
   rwa [BQ]at this
  have G:(t.map λq=>q.2.1).Perm ws:=by rwa [BQ]at Y
  have e4:Y0 [] (t.map λq=>((Sum.inr q.2.1:IS),V.str q.2.2.1)) =(t.map λq=>q.2.1).map λn=>((Sum.inr n:IS),V.str (I0 (B2 r) n)):=by
   rw[Ba (by
    rw[GB,BQ];exact List.Pairwise.map _ (λa b h e=>h (Sum.inr.inj e)) (CT.mp Z)),GB,BQ]
   exact List.map_congr_left λq hq=>by
    have:=w2 q.2 (BK.mpr ⟨q,hq,rfl⟩);show _ =((Sum.inr q.2.1:IS),V.str (I0 (B2 r) q.2.1));rw[this]
  rw[e4]at e3;have I:=s2.trans s3;have f3:=I _ _ M;have lw:=G.length_eq;refine⟨D,_,_,rfl,f3,e3,λe=>?_,by rw[AB,AB,sizeLine_eq];lia,?_⟩
  .rw[<-e,s2 _ _ M]at X;cases X
  have u4:=((L.trans I).upd (o:=.dK (Y0 (j.map λn=>((Sum.inr n:IS),V.str (m n))) ((t.map λq=>q.2.1).map λn=>((Sum.inr n:IS),V.str (I0 (B2 r) n))))) S);refine W _ _ (Cv rfl (q d _ _ u4 S A7 ?_ (j++t.map λq=>q.2.1) ?_ ((CZ j G).trans C)))
  .intro n;refine(WD.mrgG (g:=I0 (B2 r)) B n).trans (congrArg (Option.map V.str) ?_);unfold Nd WG;by_cases c:n∈t.map λq=>q.2.1
   .rw[AN c,AN ((p n).mp (G.mem_iff.mp c)).1]
   .rw[AI c];by_cases k:n∈j
    .rw[AN k,AN (J n k).1,(J n k).2]
    .rw[AI k,AI λz=>c (G.mem_iff.mpr ((p n).mpr ⟨z,k⟩))]
  .rw[Ba]
   .rw[AJ,BQ,BQ];have e5:((λq:IS×V=>q.1)∘λn:Str=>((Sum.inr n:IS),V.str (m n)))=Sum.inr:=rfl;have e6:((λq:IS×V=>q.1)∘λn:Str=>((Sum.inr n:IS),V.str (I0 (B2 r) n)))=Sum.inr:=rfl;rw[e5,e6,<-AJ]
   .rw[AJ,BQ,BQ];have e5:((λq:IS×V=>q.1)∘λn:Str=>((Sum.inr n:IS),V.str (m n)))=Sum.inr:=rfl;have e6:((λq:IS×V=>q.1)∘λn:Str=>((Sum.inr n:IS),V.str (I0 (B2 r) n)))=Sum.inr:=rfl;show((j.map Sum.inr) ++(t.map λq=>q.2.1).map Sum.inr:A0 IS).Nodup;rw[<-AJ];exact List.Pairwise.map _ (λa b h e=>h (Sum.inr.inj e)) (((CZ j G).trans C).nodup_iff.mpr y)
def oV(o:A5 Str):V:=(o.map V.str).getD .non
abbrev Row3:Type:=Str×A5 Str×Str
def R3(H:Hp)(l:A3)(a:A0 (A3×Row3)):Prop:=H l=some (.lst (a.map λq=>V.ref q.1))/\∀q∈a,H q.1=some (.tup [.str q.2.1,oV q.2.2.1,.str q.2.2.2])
def R3.same{H H':Hp}{l:A3}{a:A0 (A3×Row3)}(h:R3 H l a)(s:C3 H H'):R3 H' l a:=⟨s _ _ h.1,λq b=>s _ _ (h.2 q b)⟩
def Uj(f:Str->A5 Str)(g:Str->Str)(n:Str):Bool:=!decide (f n=some (g n))
def Bc(f:Str->A5 Str)(g:Str->Str)(ns:A0 Str):A0 Row3:=(ns.filter (Uj f g)).map λn=>(n,f n,g n)
def Vf(o:A5 Str)(y:Str):zGl (oV o) (.str y)=true/\(!decide (oV o = .str y))=!decide (o=some y):=by
 cases o with
 | none=>exact⟨rfl,rfl⟩
 | some x =>
  refine⟨rfl,?_⟩;show(!decide (V.str x=V.str y))=_;by_cases e:x=y
  .rw[e,AQ rfl,AQ rfl]
  .rw[AM (λz=>e (by cases z;rfl)),AM (λz=>e (by cases z;rfl))]
theorem zAs{K:VA}{a D:A3}{ss:A0 Str}{r:St}{f:Str->A5 Str}{g:Str->Str}{B:TT}{C:TE}{H:Hp}{Q:St->Hp->Prop}(e:H a=some (.lst (ss.map V.str)))(P:ss.length<=1000)(E:H D=none)
  (u:∀y∈ss,∀d,C3 H d->∀m:Bool->Hp->Prop,m (Uj f g y) d->B (some (.str y)::r) d m)
  (R:∀y∈ss,∀d,C3 H d->∀m:VK,(∀t,d t=none->m (.ref t) (H_ d t (.tup [.str y,oV (f y),.str (g y)])))->C (some (.str y)::r) d m)
  (h:∀σ w b,C3 H w->R3 w D b->(b.map λq=>q.2)=Bc f g ss->Q σ w) (F:A5 V) :
  Ax (P2 0) B (g7 D C) (QF K a) (F::r) (H_ H D (.lst [])) Q:=by
 refine P8 (PP (K:=K) (II.of e)) (λi σ j=>(∃v,σ=v::r)/\C3 H j/\∃b,R3 j D b/\(b.map λq=>q.2)=Bc f g (ss.take i))
  ⟨⟨_,rfl⟩,C3.new E,[],⟨A7,λq p=>absurd p A_⟩,rfl⟩ (λi σ d _ ⟨_,S,_⟩=>S.at a) ?_ ?_
 .rintro i σ j v N G ⟨⟨F,rfl⟩,k,b,s,l⟩ I;rw[AH]at G;obtain⟨y,J,rfl⟩:=BF.mp G;have L:=BB J;have M:Bc f g (ss.take (i+1))=Bc f g (ss.take i)++if Uj f g y=true then [(y,f y,g y)]else []:=by
   unfold Bc;rw[E3 J,CM,BO,DQ,AJ];by_cases c:Uj f g y=true
   .rw[AN c,AN c];rfl
   .rw[AI c,AI c];rfl
  have U:b.length<=1000:=by
   have O:=congrArg List.length l;unfold Bc at O;have:=BC (Uj f g) (ss.take i);rw[AB,AB]at O;rw[AZ]at this;lia
  refine u y L j k _ (Z7 (λc=>R y L j k _ λt u=>?_) (λc=>I _ _ ⟨⟨_,rfl⟩,k,b,s,by rw[M,AI c,BW];exact l⟩));have x:=C3.new (o:=.tup [.str y,oV (f y),.str (g y)]) u;have A:(H_ j t (.tup [.str y,oV (f y),.str (g y)])) t=some (.tup [.str y,oV (f y),.str (g y)]):=A7;generalize H_ j t (.tup [.str y,oV (f y),.str (g y)])=X at x A⊢;have n:=s.same x;refine⟨_,n.1,by rw[AB,sizeLine_eq];lia,I _ _ ⟨⟨_,rfl⟩,(k.trans x).upd E,b ++ [(t,y,f y,g y)],⟨?_,λq p=>?_⟩,?_⟩⟩
  .rw[A7,AJ];rfl
  .have T:q.1≠D:=by
    rcases AO.mp p with c | c
    .exact K0 (n.2 q c) n.1 (by intro z;cases z)
    .rw[AE.mp c];exact K0 A n.1 (by intro z;cases z)
   rw[B7 T];rcases AO.mp p with c | c
   .exact n.2 q c
   .rw[AE.mp c];exact A
  .rw[AJ,l,M,AN c];rfl
 .rintro σ j ⟨_,k,b,s,l⟩;rw[AB,BS]at l;exact h σ j b k s l
theorem Bj:IB ["old","new"] ["old","new"] (B6 MA):=KL
def Jb:Sp:=λk H Q _=>∃(d e:A3) (h b:A0 (IS×V)) (f:Str->A5 Str) (g:Str->Str) (i a:A0 Str),k = [.ref d,.ref e]/\H d=some (.dK h)/\WD h f/\H e=some (.dK b)/\(b.map λq=>q.1)=i.map Sum.inr/\i.Perm a/\a.Pairwise NR/\a.length<=100/\(∀n∈a,X4 b (.inr n)=some (.str (g n))) /\
 ∀l j c,C3 H c->H l=none->R3 c l j->(j.map λq=>q.2)=Bc f g a->Q (.ref l) c
theorem Ci(T:Tx K mg):IM P w K mg base JR 1 T.aO.f T.aO.fd ["old","new"] (Jb):=by
 refine T.aO.F.o1 Bj λL A v s H vs Q E M h=>?_
 .obtain⟨d,e,kd,N,f,g,O,i,rfl,R,S,G,U,W,X,ln,Y,q⟩:=h;have r:=Q9 M;refine⟨_,(B5 (C1 (V5 (N':=["name","new","old"]) (cap:=[none,some 1,some 0]) (cl:=[("old",_),("new",_)]) (P0 ⟨⟨rfl,rfl,rfl,rfl⟩,⟨⟨rfl,rfl,rfl,rfl⟩,trivial⟩⟩ ⟨rfl,⟨rfl,trivial⟩⟩) rfl (NB K (G7 Xd T.av N8 (A6 (pv 1) A8))) (λ_ _ _ _=>by exact⟨(LM 0),(K8 (B8 Db (Y9 r (pv 2) (pv 0) ⟨rfl,rfl,rfl,rfl⟩) (X9 r (pv 1) (pv 0) (λ_ _=>rfl)) (D0 _))),(J3 (A6 (pv 0) (A6 (Y9 r (pv 2) (pv 0) ⟨rfl,rfl,rfl,rfl⟩) (A6 (X9 r (pv 1) (pv 0) (λ_ _=>rfl)) A8))))⟩)))),?_⟩;refine Cv rfl ⟨e,N,O,rfl,.inl G,U,λl Z hl p3 x=>?_⟩;rw[K7 x X (p3.trans W)];have j:=C3.new (o:=.lst (i.map V.str)) hl;have z:(H_ H l (.lst (i.map V.str))) l=some (.lst (i.map V.str)):=A7;generalize H_ H l (.lst (i.map V.str))=I at j z⊢;refine⟨l,rfl,⟨_,II.of z⟩,λD J=>?_⟩;have m:∀(y:Str) (a:Hp) (c:VK),C3 I a->c (oV (f y)) a->Lx (V2 2) (V2 0) [some (.str y),some (.ref e),some (.ref d)] a c:=λy a c b B=>by
   have u:=b _ _ (j _ _ R);refine Cv rfl ⟨d,rfl,.inl ⟨_,.inl u⟩,Cv rfl ⟨_,LJ.k (k:=.inr y) u,?_⟩⟩;rw[S y];exact B
  have n:∀(y:Str),y∈i->∀(a:Hp) (c:VK),C3 I a->c (.str (g y)) a->zCx (V2 1) (V2 0) [some (.str y),some (.ref e),some (.ref d)] a c:=λy p a c b B=>by
   refine Cv rfl (Cv rfl ⟨e,_,rfl,?_,B⟩);have:=LJ.k (k:=.inr y) (b _ _ (j _ _ G));rw[Y y p]at this;exact this
  refine zAs (f:=f) (g:=g) z (by lia) J (λy p a b c C=>?_) (λy p a b c C=>?_) (λσ a rs b L2 u=>q D rs a (j.trans b) (j.free J) L2 u) _
  .unfold j7 OS;refine m y a _ b ?_;refine n y p a _ b ?_;refine⟨(Vf _ _).1,_,rfl,?_⟩;rw[(Vf _ _).2];exact C
  .exact Cv rfl (m y a _ b (n y p a _ b ⟨by show 3<=sizeLine;rw[sizeLine_eq];lia,λt ht=>C t ht⟩))
def eK(H:Hp)(k p:A3):Hp:=λb=>if b=k\/b=p then none else H b
def l9{H:Hp}{k p b:A3}(h1:b≠k)(h2:b≠p):eK H k p b=H b:=AI λz=>z.elim h1 h2
def Rr{H:Hp}{k p b:A3}{o:HO}(e:eK H k p b=some o):b≠k/\b≠p/\H b=some o:=by
 by_cases h:b=k\/b=p
 .unfold eK at e;rw[AN h]at e;cases e
 .have a:b≠k:=λz=>h (.inl z);have c:b≠p:=λz=>h (.inr z);rw[l9 a c]at e;exact⟨a,c,e⟩
def V3{H:Hp}{k p:A3}:C3 (eK H k p) H:=λb o e=>(Rr e).2.2
def Bt(k p:A3)(H H':Hp):Prop:=∀b o,b≠k->b≠p->H b=some o->H' b=some o
def Bt.eK{k p:A3}{H H':Hp}(h:Bt k p H H'):C3 (eK H k p) (eK H' k p):=λb o e=>by
 obtain⟨a,c,e⟩:=Rr e;rw[l9 a c];exact h b o a c e
def Bt.of{k p:A3}{H H':Hp}(h:C3 H H'):Bt k p H H':=λb o _ _ e=>h b o e
def Bt.trans{k p:A3}{H H' a:Hp}(h:Bt k p H H')(h':Bt k p H' a):Bt k p H a:=λb o c d e=>h' b o c d (h b o c d e)
def Bt.k{k p:A3}{H H':Hp}{o:HO}(h:Bt k p H H'):Bt k p H (H_ H' k o):=λb q a c e=>(B7 a).trans (h b q a c e)
def Bt.p{k p:A3}{H H':Hp}{o:HO}(h:Bt k p H H'):Bt k p H (H_ H' p o):=λb q c a e=>(B7 a).trans (h b q c a e)
def Lj{H:Hp}{k p:A3}{o:HO}:eK (H_ H k o) k p=eK H k p:=funext λb=>by
 by_cases h:b=k\/b=p
 .unfold eK;rw[AN h,AN h]
 .have a:b≠k:=λz=>h (.inl z);rw[l9 a (λz=>h (.inr z)),l9 a (λz=>h (.inr z)),B7 a]
def Zp{H:Hp}{k p:A3}{o:HO}:eK (H_ H p o) k p=eK H k p:=funext λb=>by
 by_cases h:b=k\/b=p
 .unfold eK;rw[AN h,AN h]
 .have a:b≠p:=λz=>h (.inr z);rw[l9 (λz=>h (.inl z)) a,l9 (λz=>h (.inl z)) a,B7 a]
def IR.keepD{C D:A3}{H H':Hp}{x d i:A3}{j:A0 (Str×V)}{ns:A0 Str}{m:A0 IQ}(h:IR C H x ns m)(p:H d=some (.ins D i j))(nx:x≠d)(k:∀b o,b≠d->H b=some o->H' b=some o):IR C H' x ns m:=by
 obtain⟨r,s,a,b,c,t,u,w,y,A,B,E,F,G,I,J⟩:=h;have f:∀{b:A3} {o:HO},H b=some o->o≠ .ins D i j->H' b=some o:=λe n=>k _ _ (K0 e p n) e;exact⟨r,s,a,b,c,t,u,w,k _ _ nx y,f A (by intro z;cases z),f B (by intro z;cases z),λq K=>f (E q K) (by intro z;cases z),f F (by intro z;cases z),f G (by intro z;cases z),λn g=>let⟨l,v,e⟩:=I n g;⟨l,v,f e (by intro z;cases z)⟩,λn g=>let⟨l,v,e⟩:=J n g;⟨l,v,f e (by intro z;cases z)⟩⟩
def kf(x g r p:A3):A0 (Str×V):=[("web",.ref x),("given",.ref g),("reckoned",.ref r),("past",.ref p)]
structure KZ(CK CW:A3)(H:Hp)(k p:A3)(ns:A0 Str)(qs:A0 IQ)(m:Nat):Prop where
 ex:∃(dk x g r:A3) (kvs:A0 (IS×V)) (ks:A0 Str) (rl pl:A0 V),H k=some (.ins CK dk (kf x g r p))/\IR CW (eK H k p) x ns qs/\H g=some (.dK kvs)/\WD kvs (WG ns qs)/\(kvs.map λq=>q.1)=ks.map Sum.inr/\ks.Perm ns/\H p=some (.lst pl)/\pl.length<=m
 nm:∀n∈ns,N9 n=true
def KZ.same{b c:A3}{H H':Hp}{k p:A3}{ns:A0 Str}{d:A0 IQ}{m:Nat}(h:KZ b c H k p ns d m)(s:C3 H H'):KZ b c H' k p ns d m :=
 ⟨let⟨e,x,g,r,a,f,i,j,l,n,o,q,t,u,v,w⟩:=h.ex;⟨e,x,g,r,a,f,i,j,s _ _ l,n.same (Bt.of s).eK,s _ _ o,q,t,u,s _ _ v,w⟩,h.nm⟩
theorem Ea{C:A3}{H:Hp}{h l2:A3}{ss:A0 Str}{ps:A0 IQ}{R:Hp->Prop}{E:XK}{y a:A3}(r:H y=none)(i:H a=none)(s:H h=some (.lst (ss.map V.str)))(t:H l2=some (.lst (G0 ps)))(j:∀q∈ps,G9 H q)(w:X6 ss)(x:NT ss ps)
  (q:∀(ns:A0 Str) (g:A0 IQ) (H':Hp),ns.Perm ss->ns.Pairwise NR->g.Perm ps->g.Pairwise QH->C3 H H'->IR C H' y ns g->(∀z k u,H z=some (.lst k)->IR C (H_ H' z u) y ns g)->R H') :
  Bm K C [.ref y,.ref h,.ref l2] (H_ (H_ H a (.own y)) y (.ins C a [])) (λv A=>v = .non/\R A) E:=by
 have c:C3 H (H_ (H_ H a (.own y)) y (.ins C a [])):=λb o e=>by
  rw[B7 (B0 e r),B7 (B0 e i)];exact e
 refine⟨y,a,h,ss,l2,ps,rfl,A7,.inl (II.of (c _ _ s)),w,c _ _ t,G6 c j,x,λl m B n d p f D F G=>⟨rfl,?_⟩⟩;exact q l m B n d p f (λb o e=>D b o (c b o e) (by simpa using B0 e r)) F λz k u I=>G z k u (c _ _ I)
theorem Nv:IB ["web"] ["web"] (B6 PD):=KL
def zAh(C:A3):Sp:=λe H Q _=>∃(x:A3) (b:A0 Str) (d:A0 IQ),e = [.ref x]/\IR C H x b d/\(∀n∈b,N9 n=true) /\
 ∀(y:A3) (a:A0 IQ) (c:Hp),a.Perm d->C3 H c->H y=none->IR C c y b a->(∀z f u,H z=some (.lst f)->IR C (H_ c z u) y b a)->Q (.ref y) c
theorem Do(T:Tx K mg):IM P w K mg base JR 5 T.a4.f T.a4.fd ["web"] (zAh T.ac):=by
 refine T.a4.F.o1 Nv λN A j s H vs Q E k h=>?_
 .obtain⟨x,d,g,rfl,W,O,q⟩:=h;obtain⟨e,B,a1,b,c,d',kc,R,C,_,_,l,_⟩:=id W;refine⟨_,(B5 (C1 (j8 T.bc (Q8 T) (Rm k) rfl T.bb T.ax .nil J6 (A6 (J5 (pv 0) T.ag T.ab.m (E6 T) (Rm k) T.ab.b .nil J6) (A6 (J5 (pv 0) T.ag T.ae.m (I9 T) (Rm k) T.ae.b .nil J6) A8))))),?_⟩;refine Cv rfl ⟨x,B,Cv rfl ⟨C,rfl,x,d,g,rfl,W,λn p=>?_⟩⟩;have i:=C3.new (o:=.lst (d.map V.str)) p;have D:(H_ H n (.lst (d.map V.str))) n=some (.lst (d.map V.str)):=A7;generalize H_ H n (.lst (d.map V.str))=S at i D⊢;refine Cv rfl ⟨x,B,Cv rfl ⟨i _ _ C,rfl,x,d,g,rfl,W.same i,λG r=>?_⟩⟩;have I:=C3.new (o:=.lst (G0 g)) r;have U:(H_ S G (.lst (G0 g))) G=some (.lst (G0 g)):=A7;have a:=i.trans I;intro y dy J t X;refine Ea J t (I _ _ D) U (G6 a l) ⟨O,e.nd,e.len⟩ ⟨e.mem,e.ndq,e.lenq⟩ λY v Z pn sn pq sq s' L M=>?_;rw[K7 sn e.srt pn]at L M;exact q y v Z pq (a.trans s') (a.free J) L λz zs u hz=>M z zs u (a _ _ hz)
theorem r9:IB ["self","web"] ["self","web"] (B6 LC):=KL
def Xb(d e:A3):Sp:=λg H Q _=>∃(k h x:A3) (b:A0 Str) (f:A0 IQ),g = [.ref k,.ref x]/\H k=some (.ins d h [])/\IR e H x b f/\x≠k/\(∀n∈b,N9 n=true) /\
 ∀(p:A3) (a:A0 IQ) (c:Hp),a.Perm f->Bt k p H c->H p=none->KZ d e c k p b a 0->Q .non c
set_option maxHeartbeats 1000000 in
theorem Da(T:Tx K mg):IM P w K mg base JR 7 T.bo T.bn ["self","web"] (Xb T.aa T.ac):=by
 refine T.bp.o1 r9 λcdv A C s H vs Q E hr h=>?_
 .obtain⟨k,a,x,j,qs,rfl,hk,W,nx,hN,q⟩:=h;refine⟨_,(A9 (RB K (pv 0) (C9 T.a4 (Do T) (Rm hr) (A6 (pv 1) A8)))
   (A9 (RB K (pv 0) (C9 T.aD (Y1 T) (Rm hr) (A6 (NE K (pv 0)) (A6 Wi A8))))
   (A9 (RB K (pv 0) (E9 A8))
   (B5 (RB K (pv 0) (E9 A8)))))),?_⟩
  refine B4 λN1 D=>?_;refine Cv rfl ⟨x,j,qs,rfl,W,hN,λy c t p1 s1 hy W1 _=>?_⟩;have l:=s1 _ _ hk;have F:y≠k:=(B0 hk hy).symm;refine Cv rfl ⟨k,T.aa,a,[],rfl,l,T.ad,T.ah,by decide,?_⟩;refine D _ _ (B4 λN2 G=>?_);have I:(H_ t k (.ins T.aa a (Q3 "web" (.ref y) []))) k=some (.ins T.aa a [("web",.ref y)]):=A7;have b2:Bt k k H (H_ t k (.ins T.aa a (Q3 "web" (.ref y) []))):=(Bt.of s1).k;have J:IR T.ac (eK (H_ t k (.ins T.aa a (Q3 "web" (.ref y) []))) k k) y j c:=by
   rw[Lj];exact W1.keepD l F λb o hb e=>(l9 hb hb).trans e
  generalize H_ t k (.ins T.aa a (Q3 "web" (.ref y) []))=H2 at I b2 J⊢;refine Cv rfl ⟨k,T.aa,a,_,_,rfl,I,T.ad,T.ah,rfl,?_⟩;intro d hd;have L:=C3.new (o:=.dK []) hd;have f3:(H_ H2 d (.dK [])) d=some (.dK []):=A7;generalize H_ H2 d (.dK [])=H3 at L f3⊢;refine⟨y,d,j,c,[],λ_ => "",rfl,(J.same V3).same L,f3,D_,λn hn=>absurd hn A_,λg M u s4 hg e4 N ks k4 p4=>?_⟩;have i:=L.trans s4;have h4:=i _ _ I;have W4:=J.same (Bt.of i (k:=k) (p:=k)).eK;have O:g≠k:=K0 e4 h4 (by intro z;cases z);refine Cv rfl ⟨k,T.aa,a,_,rfl,h4,T.ad,T.aB,CJ rfl,?_⟩;have h5:(H_ u k (.ins T.aa a (Q3 "given" (.ref g) [("web",.ref y)]))) k=some (.ins T.aa a [("web",.ref y),("given",.ref g)]):=A7;have b5:Bt k k H (H_ u k (.ins T.aa a (Q3 "given" (.ref g) [("web",.ref y)]))):=(b2.trans (Bt.of i)).k;have W5:IR T.ac (eK (H_ u k (.ins T.aa a (Q3 "given" (.ref g) [("web",.ref y)]))) k k) y j c:=by
   rw[Lj];exact W4
  have e5:=(B7 (o:=.ins T.aa a (Q3 "given" (.ref g) [("web",.ref y)])) O).trans e4;generalize H_ u k (.ins T.aa a (Q3 "given" (.ref g) [("web",.ref y)]))=H5 at h5 b5 W5 e5⊢;refine G _ _ (B4 λN3 R=>?_);refine⟨CB _,λr S=>?_⟩;have m:=C3.new (o:=.lst []) S;generalize H_ H5 r (.lst [])=v at m⊢;refine Cv rfl ⟨k,T.aa,a,_,rfl,m _ _ h5,T.ad,T.ba,CJ rfl,?_⟩;have U:(H_ v k (.ins T.aa a (Q3 "reckoned" (.ref r) [("web",.ref y),("given",.ref g)]))) k=some (.ins T.aa a [("web",.ref y),("given",.ref g),("reckoned",.ref r)]):=A7;have V:Bt k k H (H_ v k (.ins T.aa a (Q3 "reckoned" (.ref r) [("web",.ref y),("given",.ref g)]))):=(b5.trans (Bt.of m)).k;have W7:IR T.ac (eK (H_ v k (.ins T.aa a (Q3 "reckoned" (.ref r) [("web",.ref y),("given",.ref g)]))) k k) y j c:=by
   rw[Lj];exact W5.same (Bt.of m).eK
  have X:=(B7 (o:=.ins T.aa a (Q3 "reckoned" (.ref r) [("web",.ref y),("given",.ref g)])) O).trans (m _ _ e5);generalize H_ v k (.ins T.aa a (Q3 "reckoned" (.ref r) [("web",.ref y),("given",.ref g)]))=Y at U V W7 X⊢;refine R _ _ ⟨CB _,λp f=>?_⟩;have B:=C3.new (o:=.lst []) f;have f8:(H_ Y p (.lst [])) p=some (.lst []):=A7;have Z:p≠k:=(B0 U f).symm;have pg:p≠g:=(B0 X f).symm;have W8:IR T.ac (eK (H_ Y p (.lst [])) k p) y j c:=by
   rw[Zp];refine W7.same λb o e=>?_;obtain⟨b1,_,e⟩:=Rr e;rw[l9 b1 (B0 e f)];exact e
  generalize H_ Y p (.lst [])=H8 at B f8 W8⊢;refine Cv rfl ⟨k,T.aa,a,_,rfl,B _ _ U,T.ad,T.bj,CJ rfl,?_⟩;have hp:H p=none:=by
   cases e:H p with
   | none=>rfl
   | some o =>
    have:=V p o Z Z e;rw[f]at this;cases this
  refine q p c _ p1 (Bt.k λb o h1 _ e=>B _ _ (V b o h1 h1 e)) hp ⟨⟨a,y,g,r,M,ks,[],[],A7,by rw[Lj];exact W8,(B7 O).trans (B _ _ X),N,k4,p4,(B7 Z).trans f8,VD _⟩,hN⟩
def zBi{K:VA}{a C:A3}{ns:A0 Str}{r:St}{p:Str->Bool}{g:Str->Str}{u:TT}{w:TE}{H:Hp}{Q:St->Hp->Prop}(e:H a=some (.lst (ns.map V.str)))(F:ns.Nodup)(G:ns.length<=1000)(x:H C=none)
  (I:∀y∈ns,∀b,C3 H b->∀k:Bool->Hp->Prop,k (p y) b->u (some (.str y)::r) b k)
  (J:∀y∈ns,p y=true->∀b,C3 H b->∀k:VK,k (.str (g y)) b->w (some (.str y)::r) b k)
  (h:∀σ m,C3 H m->m C=some (.dK ((ns.filter p).map λn=>((Sum.inr n:IS),V.str (g n))))->Q σ m) (z:A5 V) :
  Ax (P2 0) u (Et C (V2 0) w) (QF K a) (z::r) (H_ H C (.dK [])) Q:=by
 refine P8 (PP (K:=K) (II.of e)) (λi σ f=>(∃v,σ=v::r)/\C3 H f/\f C=some (.dK (((ns.take i).filter p).map λn=>((Sum.inr n:IS),V.str (g n)))))
  ⟨⟨_,rfl⟩,C3.new x,A7⟩ (λi σ b _ ⟨_,L,_⟩=>L.at a) ?_ ?_
 .rintro i σ f v N A ⟨⟨z,rfl⟩,j,l⟩ B;rw[AH]at A;obtain⟨y,o,rfl⟩:=BF.mp A;have D:=BB o;have E:(ns.take (i+1)).filter p =(ns.take i).filter p++if p y=true then [y]else []:=by
   rw[E3 o,CM,BO,DQ]
  have P:(((ns.take i).filter p).map λn=>((Sum.inr n:IS),V.str (g n))).length<=1000:=by
   rw[AB];have:=BC p (ns.take i);rw[AZ]at this;lia
  refine I y D f j _ (Z7 (λc=>?_) (λc=>B _ _ ⟨⟨_,rfl⟩,j,by rw[E,AI c,BW];exact l⟩));refine Cv rfl (J y D c f j _ ⟨_,Sum.inr y,l,rfl,by rw[sizeLine_eq];lia,B _ _ ⟨⟨_,rfl⟩,j.upd x,?_⟩⟩);have M:X4 (((ns.take i).filter p).map λn=>((Sum.inr n:IS),V.str (g n))) (Sum.inr y:IS)=none:=by
   cases e:X4 (((ns.take i).filter p).map λn=>((Sum.inr n:IS),V.str (g n))) (Sum.inr y:IS)with
   | none=>rfl
   | some v =>
    obtain⟨q,O,s⟩:=BK.mp (Qs e);obtain⟨d,t,rfl⟩:=BK.mp O;have s:d=y:=Sum.inr.inj s;exact absurd (s▸(AY.mp t).1) (a7 F o)
  rw[A7,Md _ M,E,AN c,AJ];rfl
 .rintro σ f ⟨_,j,l⟩;rw[AB,BS]at l;exact h σ f j l
def LN{b:A0 IQ}{n y:Str}:y∈C4 b n↔(n,y)∈b.map λq=>q.2:=by
 unfold C4;rw[BK,BK];constructor
 .rintro⟨q,a,rfl⟩;obtain⟨c,d⟩:=AY.mp a;exact⟨q,c,Prod.ext (BL d) rfl⟩
 .rintro⟨q,a,e⟩;exact⟨q,AY.mpr ⟨a,AQ (congrArg Prod.fst e)⟩,congrArg Prod.snd e⟩
def Nq{ns a ss ts:A0 Str}{f b:A0 IQ}(e:∀q∈b,q.2.1∈a/\q.2.2∈a)(mt:∀x,x∈ts↔QX (C4 b) ss x)(d:∀n∈a,n∉ss->n∈ns/\∀y,y∈B2 f n↔y∈B2 b n){n:Str}(g:n∈a)(i:n∉ts) :
  n∈ns/\I0 (B2 b) n=I0 (B2 f) n:=by
 have out:∀n,n∉ts->n∉ss:=λn h c=>h ((mt n).mpr (QX.of c));refine⟨(d n g (out n i)).1,Dw (U:=λn=>n∈a/\n∉ts) (λn u y j=>⟨U3 e n u.1 y j,λc=>u.2 ((mt n).mpr (QX.step ((mt y).mp c) (LN.mpr (IT.mp j))))⟩) (λn u y=>((d n u.1 (out n u.2)).2 y).symm) ⟨g,i⟩⟩
theorem JG:IB ["self","web","changed","reckoned","stay","given","told"] ["self","web","changed"] (B6 LY):=KL
def Py(K:VA)(i f:A3):Sp:=λo H Q _=>∃(k p x a:A3) (g b d:A0 Str) (h c:A0 IQ) (m:Nat),o = [.ref k,.ref x,.ref a]/\KZ i f H k p g h m/\m<=1000/\IR f (eK H k p) x b c/\(∀n∈b,N9 n=true)/\a≠p/\H a=some (.lst (d.map V.str))/\(∀y∈d,y∈b)/\d.Nodup /\
 (∀n∈b,n∉d->n∈g/\∀y,y∈B2 h n↔y∈B2 c n) /\
 ∀l j e,Bt k p H e->KZ i f e k p b c (m+1)->H l=none->R3 (eK e k p) l j->(j.map λq=>q.2)=Bc (WG g h) (I0 (B2 c)) b->Q (.ref l) e
set_option maxHeartbeats 1000000 in
theorem P4(T:Tx K mg):IM P w K mg base JR 7 T.ak.f T.ak.fd ["self","web","changed"] (Py K T.aa T.ac):=by
 refine T.ak.F.o1 JG λcdv A outer s H vs Q E hr h=>?_
 .obtain⟨k,p,x,a,ns,r,ss,qs,J,m,rfl,hK,lm,W2,N2,nap,ha,hss,nds,hch,q⟩:=h;have hu:=Q9 hr;refine⟨_,(A9 (C6 (i:=3) JG.nd rfl (.inr rfl) (C9 T.bh (Qk T) (Rm hr) (A6 (pv 1) (A6 (pv 2) A8))))
   (A9 (Wq (i:=4) (N':=["name","self","reckoned"]) (cap:=[none,some 0,some 3]) (cl:=[("self",_),("reckoned",_)]) JG.nd rfl (.inl rfl) (P0 ⟨⟨rfl,rfl,rfl,rfl⟩,⟨⟨rfl,rfl,rfl,rfl⟩,trivial⟩⟩ ⟨rfl,⟨rfl,trivial⟩⟩) rfl (NB K (J5 (pv 1) T.ag T.ab.m (E6 T) (Rm hr) T.ab.b .nil J6)) (λ_ _ _ _=>by exact⟨(LM 0),(K8 (B8 (w9 K) (pv 0) (pv 2) rfl)),(pv 0),(X9 hu (NE K (pv 1)) (pv 0) (λ_ _=>rfl))⟩))
   (A9 (C6 (i:=5) JG.nd rfl (.inl rfl) (C9 T.aD (Y1 T) (Rm hr) (A6 (pv 1) (A6 (pv 4) A8))))
   (A9 (C6 (i:=6) JG.nd rfl (.inl rfl) (C9 T.aO (Ci T) (Rm hr) (A6 (NE K (pv 0)) (A6 (pv 5) A8))))
   (A9 (J7 (Ph K VG VH VI S0 (NE K (pv 0)) (A6 (J3 (A6 (NE K (pv 0)) (A6 (NE K (pv 0)) A8))) A8)))
   (A9 (RB K (pv 0) (pv 1))
   (A9 (RB K (pv 0) (pv 5))
   (A9 (RB K (pv 0) (pv 3))
   (B5 (C1 (pv 6))))))))))),?_⟩
  obtain⟨d,N,u,j,kv0,ks0,rl0,v,R,W0,hg0,wd0,kk0,pk0,hp,lp⟩:=hK.ex;have S:=W2.same V3;refine B4 λM1 hM1=>?_;refine Cv rfl (Cv rfl ⟨x,a,r,ss,J,rfl,S,hss,nds,.inl (II.of ha),λl ts H1 s1 hl e1 ndt sot mt _=>?_⟩);refine hM1 _ _ (B4 λM2 hM2=>?_);have W21:=S.same s1;obtain⟨I,dx,a1,b1,c1,d1,kc,kd,ex,_⟩:=id W21;refine Cv rfl ⟨x,dx,Cv rfl ⟨ex,rfl,x,r,J,rfl,W21,λl2 hl2=>?_⟩⟩;have s2:=C3.new (o:=.lst (r.map V.str)) hl2;have f2:(H_ H1 l2 (.lst (r.map V.str))) l2=some (.lst (r.map V.str)):=A7;generalize H_ H1 l2 (.lst (r.map V.str))=H2 at s2 f2⊢;refine⟨l2,rfl,⟨_,II.of f2⟩,λD hD=>?_⟩;have s12:=s1.trans s2;refine zBi (p:=λn=>!decide (n∈ts)) (g:=I0 (B2 J)) f2 I.nd (by have:=I.len;lia) hD (λy hy H3 s3 Q' hQ=>?_) (λy hy c H3 s3 Q' hQ=>?_) (λσ H3 s3 e3=>?_) _
  .exact Cv rfl (Cv rfl (U6 (.inl (II.of (s3 _ _ (s2 _ _ e1)))) ⟨_,rfl,hQ⟩))
  .have O:=s12.trans s3;refine Cv rfl ⟨k,T.aa,d,_,_,rfl,O _ _ R,T.ad,T.aB,rfl,Cv rfl ⟨u,_,rfl,?_,hQ⟩⟩;have hd:=LJ.k (k:=.inr y) (O _ _ hg0);obtain⟨m1,m2⟩:=Nq I.mem mt hch hy (by simpa using c);rw[wd0 y,zBs m1,<-m2]at hd;exact hd
  have s13:=s12.trans s3;refine hM2 _ _ (B4 λM3 hM3=>?_);refine Cv rfl (Cv rfl ⟨x,D,r,J,_,_,rfl,S.same s13,e3,I.nd.filter _,λn hn=>⟨(AY.mp hn).1,rfl⟩,λC kv1 H4 s4 hg1 e4 wd4 ks1 k4 p4=>?_⟩);have B:=s13.trans s4;refine hM3 _ _ (B4 λM4 hM4=>?_);refine Cv rfl ⟨k,T.aa,d,_,_,rfl,B _ _ R,T.ad,T.aB,rfl,?_⟩;refine Cv rfl ⟨u,C,kv0,kv1,WG ns qs,I0 (B2 J),ks1,r,rfl,B _ _ hg0,wd0,e4,k4,p4,I.srt,I.len,λn hn=>by rw[wd4 n,zBs hn];rfl,λlo rs H5 s5 hlo R5 q5=>?_⟩;have U:=B.trans s5;have L:=U _ _ R;have W:=U _ _ hp;refine hM4 _ _ (B4 λM5 hM5=>?_);refine Cv rfl ⟨k,T.aa,d,_,_,rfl,L,T.ad,T.bj,rfl,.inl ⟨rfl,_,II.of W⟩,?_⟩;refine Cv rfl ⟨k,T.aa,d,_,_,rfl,L,T.ad,T.ah,rfl,?_⟩;refine Cv rfl ⟨k,T.aa,d,_,_,rfl,L,T.ad,T.aB,rfl,?_⟩;refine⟨by show 2<=sizeLine;rw[sizeLine_eq];lia,λX ht6=>?_⟩;have s6:=C3.new (o:=.tup [.ref N,.ref u]) ht6;generalize H_ H5 X (.tup [.ref N,.ref u])=H6 at s6⊢;have Y:=U.trans s6;refine⟨p,v,_,rfl,rfl,Y _ _ hp,by rw[sizeLine_eq];lia,hM5 _ _ (B4 λM6 hM6=>?_)⟩;have M:k≠p:=K0 R hp (by intro z;cases z);have b7:Bt k p H (H_ H6 p (.lst (v ++ [.ref X]))):=(Bt.of Y).p;have b57:Bt k p H5 (H_ H6 p (.lst (v ++ [.ref X]))):=(Bt.of s6).p;have h7:(H_ H6 p (.lst (v ++ [.ref X]))) k=some (.ins T.aa d (kf N u j p)):=(B7 M).trans (Y _ _ R);have p7:(H_ H6 p (.lst (v ++ [.ref X]))) p=some (.lst (v ++ [.ref X])):=A7;generalize H_ H6 p (.lst (v ++ [.ref X]))=H7 at b7 b57 h7 p7⊢;refine Cv rfl (Cv rfl ⟨k,T.aa,d,_,rfl,h7,T.ad,T.ah,CJ rfl,?_⟩);have h8:(H_ H7 k (.ins T.aa d (Q3 "web" (.ref x) (kf N u j p)))) k=some (.ins T.aa d (kf x u j p)):=A7;have b8:=b7.k (o:=.ins T.aa d (Q3 "web" (.ref x) (kf N u j p)));have b58:=b57.k (o:=.ins T.aa d (Q3 "web" (.ref x) (kf N u j p)));have p8:=(B7 (o:=.ins T.aa d (Q3 "web" (.ref x) (kf N u j p))) M.symm).trans p7;generalize H_ H7 k (.ins T.aa d (Q3 "web" (.ref x) (kf N u j p)))=H8 at h8 b8 b58 p8⊢;refine hM6 _ _ (B4 λM7 hM7=>?_);refine Cv rfl (Cv rfl ⟨k,T.aa,d,_,rfl,h8,T.ad,T.aB,CJ rfl,?_⟩);have h9:(H_ H8 k (.ins T.aa d (Q3 "given" (.ref C) (kf x u j p)))) k=some (.ins T.aa d (kf x C j p)):=A7;have b9:=b8.k (o:=.ins T.aa d (Q3 "given" (.ref C) (kf x u j p)));have b59:=b58.k (o:=.ins T.aa d (Q3 "given" (.ref C) (kf x u j p)));have p9:=(B7 (o:=.ins T.aa d (Q3 "given" (.ref C) (kf x u j p))) M.symm).trans p8;generalize H_ H8 k (.ins T.aa d (Q3 "given" (.ref C) (kf x u j p)))=H9 at h9 b9 b59 p9⊢;refine hM7 _ _ (B4 λM8 hM8=>?_);refine Cv rfl (Cv rfl ⟨k,T.aa,d,_,rfl,h9,T.ad,T.ba,CJ rfl,?_⟩);have h10:(H_ H9 k (.ins T.aa d (Q3 "reckoned" (.ref l) (kf x C j p)))) k=some (.ins T.aa d (kf x C l p)):=A7;have Z:=b9.k (o:=.ins T.aa d (Q3 "reckoned" (.ref l) (kf x C j p)));have G:=b59.k (o:=.ins T.aa d (Q3 "reckoned" (.ref l) (kf x C j p)));have p10:=(B7 (o:=.ins T.aa d (Q3 "reckoned" (.ref l) (kf x C j p))) M.symm).trans p9;generalize H_ H9 k (.ins T.aa d (Q3 "reckoned" (.ref l) (kf x C j p)))=H10 at h10 Z G p10⊢;refine hM8 _ _ (Cv rfl ?_);have h04:H4 k≠none:=by rw[B _ _ R];intro z;cases z
  have lok:∀{b:A3} {o:HO},H5 b=some o->H4 b=none->b≠k/\b≠p:=fun{b o} e n=>⟨λz=>(by rw[z,B _ _ R]at n;cases n),λz=>(by rw[z,B _ _ hp]at n;cases n)⟩;have e5:=s5 _ _ e4;refine q lo rs H10 Z ⟨⟨d,x,C,l,kv1,ks1,ts.map V.str,_,h10,W2.same Z.eK,G _ _ (K0 e5 L (by intro z;cases z)) (K0 e5 W (by intro z;cases z)) e5,wd4,k4,p4,p10,by rw[AV];exact E_ lp⟩,N2⟩ (B.free hlo) ⟨?_,λt ht=>?_⟩ q5
  .obtain⟨z1,z2⟩:=lok R5.1 hlo;rw[l9 z1 z2];exact G _ _ z1 z2 R5.1
  .have z1:=K0 (R5.2 t ht) L (by intro z;cases z);have z2:=K0 (R5.2 t ht) W (by intro z;cases z);rw[l9 z1 z2];exact G _ _ z1 z2 (R5.2 t ht)
def Mr{C j:A3}{H:Hp}{y k p m:A3}{r:A0 (Str×V)}{ns:A0 Str}{s:A0 IQ}(h:IR C (H_ H p (.own p)) y ns s)(w:H k=some (.ins j m r))(x:y≠k):IR C (eK H k p) y ns s:=by
 obtain⟨A,t,a,b,c,u,B,D,E,F,G,I,J,K,L,M⟩:=h;have g:∀{b:A3} {o:HO},(H_ H p (.own p)) b=some o->o≠ .own p->b≠p/\H b=some o:=fun{b o} e n=>by
  have d:b≠p:=λq=>by
   rw[q,A7]at e;exact n (BU e).symm
  rw[B7 d]at e;exact⟨d,e⟩
 have f:∀{b:A3} {o:HO},(H_ H p (.own p)) b=some o->o≠ .own p->o≠ .ins j m r->eK H k p b=some o:=fun{b o} e n N=>by
  obtain⟨d,e⟩:=g e n;rw[l9 (K0 e w N) d];exact e
 have O:eK H k p y=some (.ins C t (wf a b c u)):=by
  obtain⟨d,e⟩:=g E (by intro z;cases z);rw[l9 x d];exact e
 exact⟨A,t,a,b,c,u,B,D,O,f F (by intro z;cases z) (by intro z;cases z),f G (by intro z;cases z) (by intro z;cases z),λq P=>f (I q P) (by intro z;cases z) (by intro z;cases z),f J (by intro z;cases z) (by intro z;cases z),f K (by intro z;cases z) (by intro z;cases z),(λn i=>let⟨l,v,e⟩:=L n i;⟨l,v,f e (by intro z;cases z) (by intro z;cases z)⟩),λn i=>let⟨l,v,e⟩:=M n i;⟨l,v,f e (by intro z;cases z) (by intro z;cases z)⟩⟩
theorem g9:IB ["self","one","other"] ["self","one","other"] (B6 KP):=KL
def zCg(f g:A3):Sp:=λh H Q _=>∃(k p:A3) (a b:Str) (c:A0 Str) (d:A0 IQ) (m:Nat),h = [.ref k,.str a,.str b]/\KZ f g H k p c d m/\a∈c/\b∈c/\∀e,C3 H e->Q (.bl (decide ((a,b)∈d.map λq=>q.2))) e
theorem S6(T:Tx K mg):IM P w K mg base JR 3 T.ao.f T.ao.fd ["self","one","other"] (zCg T.aa T.ac):=by
 refine T.ao.F.o1 g9 λB A i s H J Q E d h=>?_
 .obtain⟨k,p,a,b,j,c,m,rfl,C,z,D,q⟩:=h;have L:=Q9 d;refine⟨_,(A9 (J7 (N0 (NE K (pv 0)) T.ag T.aj.m (P5 T) (Rm d) T.aj.b .nil J6 (A6 (pv 1) A8)))
   (A9 (J7 (N0 (NE K (pv 0)) T.ag T.aj.m (P5 T) (Rm d) T.aj.b .nil J6 (A6 (pv 2) A8)))
   (B5 (C1 (R8 (Od K) (pv 2) (N0 (NE K (pv 0)) T.ag T.ap.m (S7 T) (Rm d) T.ap.b .nil J6 (A6 (pv 1) A8)) rfl))))),?_⟩
  obtain⟨n,x,g,r,M,N,O,R,o,G,S,U,kk,V,X,Y⟩:=C.ex;have W:=G.same V3;obtain⟨Z,t,a1,b1,c1,d1,kc,kd,u,_⟩:=id W;refine B4 λM1 v=>?_;refine Cv rfl ⟨k,T.aa,n,_,_,rfl,o,T.ad,T.ah,rfl,x,t,?_⟩;refine Cv rfl ⟨u,rfl,Cv rfl ⟨x,a,j,c,rfl,W,z,?_⟩⟩;refine v _ _ (B4 λM2 y=>?_);refine Cv rfl ⟨k,T.aa,n,_,_,rfl,o,T.ad,T.ah,rfl,x,t,?_⟩;refine Cv rfl ⟨u,rfl,Cv rfl ⟨x,b,j,c,rfl,W,D,?_⟩⟩;refine y _ _ ?_;refine Cv rfl (Cv rfl ⟨k,T.aa,n,_,_,rfl,o,T.ad,T.ah,rfl,x,t,?_⟩);refine Cv rfl ⟨u,rfl,Cv rfl ⟨x,a,j,c,rfl,W,z,λl I=>?_⟩⟩;refine V6 (.inl (II.of A7)) ?_;have e:decide (b∈C4 c a)=decide ((a,b)∈c.map λq=>q.2):=EL.mpr LN;rw[e];exact q _ (C3.new I)
theorem d9:IB ["self","one","other"] ["self","one","other"] (B6 KN):=KL
def t4(g h:A3):Sp:=λj H Q _=>∃(k p:A3) (a b:Str) (d:A0 Str) (e:A0 IQ) (m:Nat),j = [.ref k,.str a,.str b]/\KZ g h H k p d e m/\m<=1000/\a∈d/\b∈d/\(a,b)∉(e.map λq=>q.2)/\e.length+1<=200 /\
 ∀l i c f,Bt k p H f->KZ g h f k p d c (m+1)->(c.map λq=>q.2).Perm ((e.map λq=>q.2) ++ [(a,b)])->H l=none->R3 (eK f k p) l i->(i.map λq=>q.2)=Bc (WG d e) (I0 (B2 c)) d->Q (.ref l) f
set_option maxHeartbeats 1000000 in
theorem i5(T:Tx K mg):IM P w K mg base JR 8 T.an.f T.an.fd ["self","one","other"] (t4 T.aa T.ac):=by
 refine T.an.F.o1 d9 λcdv A outer s H vs Q E C h=>?_
 .obtain⟨k,p,a,b,j,i,m,rfl,D,lm,ha,hb,G,lq,q⟩:=h;have hu:=Q9 C;refine⟨_,(A9 (M0 (Q6 (N0 (pv 0) T.ad T.ao.m (S6 T) (Rm C) T.ao.b .nil J6 (A6 (pv 1) (A6 (pv 2) A8)))) (B5 Z8) D8)
   (B5 (C1 (N0 (pv 0) T.ad T.ak.m (P4 T) (Rm C) T.ak.b .nil J6 (A6 (j8 T.bc (Q8 T) (Rm C) rfl T.bb T.ax .nil J6 (A6 (J5 (NE K (pv 0)) T.ag T.ab.m (E6 T) (Rm C) T.ab.b .nil J6) (A6 (E8 Dr (J5 (NE K (pv 0)) T.ag T.ae.m (I9 T) (Rm C) T.ae.b .nil J6) (E9 (A6 (J3 (A6 (pv 1) (A6 (pv 2) A8))) A8))) A8))) (A6 (E9 (A6 (pv 2) A8)) A8)))))),?_⟩
  refine B4 λM1 hM1=>?_;obtain⟨Z,x,g,r,kv,ks,rl,pl,I,W0,hg,wd,kk,pk,hp,lp⟩:=D.ex;have W:=W0.same V3;obtain⟨J,dx,a1,b1,c1,d1,kc,kd,ex,_,_,pin,_⟩:=id W;refine Cv rfl ⟨k,Z,?_⟩;refine Cv rfl ⟨I,rfl,Cv rfl (Cv rfl ⟨k,p,a,b,j,i,m,rfl,D,ha,hb,λH1 s1=>⟨_,rfl,?_⟩⟩)⟩;rw[AM G];refine P1 (hM1 _ _ ?_);have L:=s1 _ _ I;refine Cv rfl ⟨k,Z,Cv rfl ⟨L,rfl,?_⟩⟩;refine Cv rfl ⟨k,T.aa,Z,_,_,rfl,L,T.ad,T.ah,rfl,x,dx,Cv rfl ⟨s1 _ _ ex,rfl,x,j,i,rfl,W.same s1,λl1 hl1=>?_⟩⟩;have M:=s1.trans (C3.new (o:=.lst (j.map V.str)) hl1);have N:(H_ H1 l1 (.lst (j.map V.str))) l1=some (.lst (j.map V.str)):=A7;generalize H_ H1 l1 (.lst (j.map V.str))=H2 at M N⊢;refine Cv rfl ⟨k,T.aa,Z,_,_,rfl,M _ _ I,T.ad,T.ah,rfl,x,dx,Cv rfl ⟨M _ _ ex,rfl,x,j,i,rfl,W.same M,λl2 hl2=>?_⟩⟩;have u3:=C3.new (o:=.lst (G0 i)) hl2;have s3:=M.trans u3;have f3:(H_ H2 l2 (.lst (G0 i))) l2=some (.lst (G0 i)):=A7;have N:=u3 _ _ N;generalize H_ H2 l2 (.lst (G0 i))=H3 at s3 N f3⊢;refine Cv rfl (Cv rfl ⟨by show 2<=sizeLine;rw[sizeLine_eq];lia,λt ht=>⟨by show 1<=sizeLine;rw[sizeLine_eq];lia,λl3 O=>?_⟩⟩);have u4:=C3.new (o:=.tup [.str a,.str b]) ht;have f4:(H_ H3 t (.tup [.str a,.str b])) t=some (.tup [.str a,.str b]):=A7;generalize H_ H3 t (.tup [.str a,.str b])=H4 at u4 f4 O⊢;have u5:=C3.new (o:=.lst [.ref t]) O;have f5:(H_ H4 l3 (.lst [.ref t])) l3=some (.lst [.ref t]):=A7;generalize H_ H4 l3 (.lst [.ref t])=H5 at u5 f5⊢;have R:=u4.trans u5;refine⟨l2,l3,G0 i,[.ref t],rfl,rfl,R _ _ f3,f5,by unfold G0;rw[AB,sizeLine_eq];show i.length+1<=_;lia,λl4 hl4=>?_⟩;have u6:=C3.new (o:=.lst (G0 i ++ [.ref t])) hl4;have f6:(H_ H5 l4 (.lst (G0 i ++ [.ref t]))) l4=some (.lst (G0 (i ++ [(t,a,b)]))):=by rw[A7];unfold G0;rw[AJ];rfl
  generalize H_ H5 l4 (.lst (G0 i ++ [.ref t]))=H6 at u6 f6⊢;have S:=R.trans u6;have s6:=s3.trans S;have U:∀q∈i ++ [(t,a,b)],G9 H6 q:=λq hq=>by
   rcases AO.mp hq with c | c
   .exact G6 s6 pin q c
   .rw[AE.mp c];exact u6 _ _ (u5 _ _ f4)
  intro y dy ny ndy ney;refine Ea ny ndy (S _ _ N) f6 U ⟨D.nm,J.nd,J.len⟩ ⟨λq hq=>?_,?_,by rw[AV];exact lq⟩ λns2 u H7 pn sn pq sq s7 W7 C7=>?_
  .rcases AO.mp hq with c | c
   .exact J.mem q c
   .rw[AE.mp c];exact⟨ha,hb⟩
  .rw[AJ];exact CI.mpr ⟨J.ndq,CL.mpr ⟨A_,D_⟩,λc hc d hd e=>G (by rw[AE.mp hd]at e;exact(show c =(a,b)from e)▸hc)⟩
  rw[K7 sn J.srt pn]at W7 C7;have v:=s6.trans s7;refine Cv rfl ⟨by show 1<=sizeLine;rw[sizeLine_eq];lia,λl5 X=>?_⟩;have u8:=C3.new (o:=.lst [.str b]) X;have f8:(H_ H7 l5 (.lst [.str b])) l5=some (.lst ([b].map V.str)):=A7;generalize H_ H7 l5 (.lst [.str b])=H8 at u8 f8⊢;have B:=v.trans u8;have Y:(u.map λq=>q.2).Perm ((i.map λq=>q.2) ++ [(a,b)]):=(pq.map _).trans (FE (AJ ..));have Wk:IR T.ac (eK H7 k p) y j u:=Mr (C7 p pl (.own p) (s6 _ _ hp)) (v _ _ I) (B0 (s6 _ _ I) ny).symm;refine⟨k,p,y,l5,j,j,[b],i,u,m,rfl,D.same B,lm,Wk.same (Bt.of u8).eK,D.nm,(B0 (v _ _ hp) X).symm,f8,λz hz=>by rw[AE.mp hz];exact hb,CL.mpr ⟨A_,D_⟩,λn hn nb=>⟨hn,λz=>?_⟩,λl rs H9 b9 K9 hl9 R9 q9=>q l rs u H9 ((Bt.of B).trans b9) K9 Y (B.free hl9) R9 q9⟩;rw[IT,IT,Y.mem_iff,AO,AE];exact⟨.inl,λz=>z.resolve_right λe=>nb (by cases e;exact AE.mpr rfl)⟩
theorem OF:IB ["_law_cell","_law_k","_law_m"] ["_law_cell","_law_k"] (B6 OY):=KL
def zDz:Sp:=λb H Q _=>∃(a k:Int),b = [.int a,.int k]/\0<=k/\k<=2000000/\∀m:Int,0<=m->m<1999999973->Q (.int m) H
theorem Dv(T:Tx K mg):IM P w K mg base JR 1 T.a5.f T.a5.fd ["_law_cell","_law_k"] zDz:=by
 refine T.a5.F.o1 OF λd A b s H e Q E g h=>?_
 .obtain⟨a,k,rfl,j,l,q⟩:=h;refine⟨_,(A9 (C6 (i:=2) OF.nd rfl (.inl rfl) (E8 Dn (E8 i8 (E8 T6 (E8 T6 (E8 Dn (pv 0) B3) (E8 i8 (E8 i8 (pv 1) (pv 1)) B3)) B3) B3) B3))
   (B5 (C1 (E8 Dn (E8 i8 (pv 2) (pv 2)) B3)))),?_⟩
  refine Cv rfl (C0 rfl rfl ⟨(show(0:Int)<2147483629 by decide),Cv rfl (Cv rfl (C0 rfl rfl ⟨.inl ⟨by lia,by lia⟩,C0 rfl rfl ⟨.inr ⟨by decide,by decide⟩,C0 rfl rfl (C0 rfl rfl (C0 rfl rfl ⟨.inr ⟨by decide,by decide⟩,C0 rfl rfl ⟨(show(0:Int)<2147483647 by decide),?_⟩⟩))⟩⟩))⟩);generalize c:(a % 2147483629+k*k*7919+11)*48271 % 2147483647=m;have n:0<=m:=by rw[<-c];exact GF _ (by decide)
  have o:m<2147483647:=by rw[<-c];exact FC _ (by decide)
  exact⟨_,rfl,_,rfl,_,_,rfl,rfl,.inl ⟨by lia,by lia⟩,_,_,rfl,rfl,(show(0:Int)<1999999973 by decide),q _ (GF _ (by decide)) (FC _ (by decide))⟩
def IL(H:Hp)(p:A3)(c:Int):Prop:=∃a b:Int,H p=some (.lst [.int a,.int b,.int c])/\0<=c
theorem IL.isS{H:Hp}{p:A3}{c:Int}(h:IL H p c):(H p).isSome=true:=by
 obtain⟨_,_,e,_⟩:=h;rw[e];rfl
theorem IL.get{H:Hp}{p:A3}{c:Int}(h:IL H p c):H p=some ((H p).get h.isS):=(Option.some_get _).symm
theorem IL.cast{H:Hp}{p:A3}{c a:Int}(h:IL H p c)(e:c=a):IL H p a:=e▸h
theorem IL.upd{H:Hp}{p a:A3}{c:Int}{o:HO}(h:IL H p c)(n:p≠a):IL (L2.H_ H a o) p c:=by
 obtain⟨x,y,e,z⟩:=h;exact⟨x,y,by rw[B7 n];exact e,z⟩
theorem IL.same{H H':Hp}{p:A3}{c:Int}(h:IL H p c)(s:C3 H H'):IL H' p c:=by
 obtain⟨x,y,e,z⟩:=h;exact⟨x,y,s _ _ e,z⟩
theorem zHj(c:Bool):-(2^64) <(if c=true then(1:Int)else 0)/\(if c=true then(1:Int)else 0)<2^64:=by cases c<;>exact⟨by decide,by decide⟩
theorem NV:IB ["_law_script","_law_k","_law_cell"] ["_law_script","_law_k"] (B6 OJ):=KL
def Ze(K:VA):Sp:=λb H Q _=>∃(p:A3) (c:A0 Int) (k:Nat),b = [.ref p,.int (k:Int)]/\II K H p (c.map V.int)/\k<=1000/\∀l a,H l=none->C3 H a->IL a l 0->Q (.ref l) a
theorem Ca(T:Tx K mg):IM P w K mg base JR 1 T.aV.f T.aV.fd ["_law_script","_law_k"] (Ze K):=by
 refine T.aV.F.o1 NV λo A g s H t Q E u h=>?_
 .obtain⟨p,d,k,rfl,n,v,q⟩:=h;refine⟨_,(A9 (C6 (i:=2) NV.nd rfl (.inl rfl) (Fx (B8 Nm (pv 1) (G7 (Q2 K) T.as M9 (A6 (pv 0) A8)) (D0 _)) (E5 (KQ K) (pv 0) (pv 1) (λ_ _=>rfl)) B3))
   (B5 (C1 (E9 (A6 (E8 i8 (G7 My T.bA Xk (A6 (pv 2) A8)) (Ag Tv T.bB Yk (A6 (R8 zFp (G7 My T.bA Xk (A6 (pv 2) A8)) (E8 zEm B3 B3) (D0 _)) A8))) (A6 (E8 T6 (pv 2) (E8 i8 B3 (pv 1))) (A6 B3 A8))))))),?_⟩
  refine Cv rfl (Cv rfl (C0 (a:=p) rfl (.inl n) (C0 rfl rfl (Cv rfl ?_))));have j:decide ((k:Int) <((d.map V.int).length:Int))=true->∃c:Int,PN (d.map V.int) (k:Int)=some (.int c):=λb=>by
   have b:(k:Int) <((d.map V.int).length:Int):=BL b;rw[AB]at b;have m:d[k]?=some (d[k]'(by lia)):=AF (by lia);exact⟨_,O9 (by rw[AH,m];rfl)⟩
  refine Z7 (λb=>?_) (λb=>?_)
  .obtain⟨c,r⟩:=j b;refine Cv rfl (Cv rfl ⟨p,_,C0 rfl rfl ⟨n,r,?_⟩⟩)
   (repeat first | refine⟨_,rfl,?_⟩ | refine⟨_,_,rfl,rfl,?_⟩)
   refine⟨⟨by decide,by decide,by decide⟩,?_⟩
   (repeat first | refine⟨_,rfl,?_⟩ | refine⟨_,_,rfl,rfl,?_⟩)
   refine .inr ⟨_,rfl,?_⟩
   (repeat first | refine⟨_,rfl,?_⟩ | refine⟨_,_,rfl,rfl,?_⟩)
   refine⟨.inr ?_,?_⟩
   .exact zHj _
   (repeat first | refine⟨_,rfl,?_⟩ | refine⟨_,_,rfl,rfl,?_⟩)
   refine⟨.inl ⟨by decide,by decide⟩,?_⟩
   (repeat first | refine⟨_,rfl,?_⟩ | refine⟨_,_,rfl,rfl,?_⟩)
   exact⟨by show 3<=sizeLine;decide,λl e=>q l _ e (C3.new e) ⟨_,_,A7,by decide⟩⟩
  .skip;(repeat first | refine⟨_,rfl,?_⟩ | refine⟨_,_,rfl,rfl,?_⟩)
   refine⟨⟨by decide,by decide,by decide⟩,?_⟩
   (repeat first | refine⟨_,rfl,?_⟩ | refine⟨_,_,rfl,rfl,?_⟩)
   refine .inr ⟨_,rfl,?_⟩
   (repeat first | refine⟨_,rfl,?_⟩ | refine⟨_,_,rfl,rfl,?_⟩)
   refine⟨.inr ?_,?_⟩
   .exact zHj _
   (repeat first | refine⟨_,rfl,?_⟩ | refine⟨_,_,rfl,rfl,?_⟩)
   refine⟨.inl ⟨by decide,by decide⟩,?_⟩
   (repeat first | refine⟨_,rfl,?_⟩ | refine⟨_,_,rfl,rfl,?_⟩)
   exact⟨by show 3<=sizeLine;decide,λl e=>q l _ e (C3.new e) ⟨_,_,A7,by decide⟩⟩
theorem NU:IB ["_law_left_here","_law_many","_law_digit"] ["_law_left_here","_law_many"] (B6 OI):=KL
def Ry:Sp:=λe H Q _=>∃(p:A3) (c a:Int),e = [.ref p,.int a]/\IL H p c/\c<=1000000/\0<a/\a<=1000000 /\
 ∀(d:Nat) b,(d:Int)<a->Sm [p] H b->IL b p (c+1)->Q (.int (d:Int)) b
theorem C2(T:Tx K mg):IM P w K mg base JR 2 T.af.f T.af.fd ["_law_left_here","_law_many"] Ry:=by
 refine T.af.F.o1 NU λu A o s H x Q E r h=>?_
 .obtain⟨p,c,j,rfl,⟨a,b,e,y⟩,z,k,B,q⟩:=h;refine⟨_,(A9 (Cr (E8 T6 (E5 (KQ K) (pv 0) B3 (λ_ _=>rfl)) B3) (Lb (pv 0) B3 Bg))
   (A9 (M0 (B8 zAg (E5 (KQ K) (pv 0) B3 (λ_ _=>rfl)) B3 (D0 _)) (A9 (C6 (i:=2) NU.nd rfl (.inl rfl) (E8 Dn (E5 (KQ K) (pv 0) B3 (λ_ _=>rfl)) (pv 1)))
   (A9 (Cr (E8 Gc (E5 (KQ K) (pv 0) B3 (λ_ _=>rfl)) (pv 1)) (Lb (pv 0) B3 Bg))
   (B5 (C1 (pv 2))))) D8)
   (B5 (C1 (E8 Dn (E8 Gc (C9 T.a5 (Dv T) (Rm r) (A6 (C9 T.a5 (Dv T) (Rm r) (A6 (E5 (KQ K) (pv 0) B3 (λ_ _=>rfl)) (A6 (E5 (KQ K) (pv 0) B3 (λ_ _=>rfl)) A8))) (A6 (E8 T6 (E5 (KQ K) (pv 0) B3 (λ_ _=>rfl)) B3) A8))) B3) (pv 1)))))),?_⟩
  have t:∀d:Int,0<=d->d<j->∀l m,Q (.int d) (H_ (H_ H p (.lst [.int a,.int b,.int (c+1)])) p (.lst [.int l,.int m,.int (c+1)]))/\Q (.int d) (H_ H p (.lst [.int l,.int m,.int (c+1)])):=λd v g l m=>by
   obtain⟨n,rfl⟩:=Int.eq_ofNat_of_zero_le v;exact⟨q n _ g (((Sm.refl _ _).upd (by simp)).upd (by simp)) ⟨l,m,A7,by lia⟩,q n _ g ((Sm.refl _ _).upd (by simp)) ⟨l,m,A7,by lia⟩⟩
  refine Cv rfl ⟨p,_,C0 rfl rfl ⟨II.of e,rfl,C0 rfl rfl (Cv rfl ⟨p,_,_,2,rfl,rfl,e,rfl,?_⟩)⟩⟩;refine Cv rfl ⟨p,_,C0 rfl rfl ⟨II.of A7,rfl,C0 rfl rfl (Cv rfl ?_)⟩⟩;refine Z7 (λg=>?_) (λg=>?_)
  .have g:(0:Int)<a:=BL g;refine Cv rfl ⟨p,_,C0 rfl rfl ⟨II.of A7,rfl,Cv rfl (C0 rfl rfl ⟨k,?_⟩)⟩⟩;refine Cv rfl ⟨p,_,C0 rfl rfl ⟨II.of A7,rfl,Cv rfl (C0 rfl rfl ⟨⟨k,by lia⟩,Cv rfl ⟨p,_,_,0,rfl,rfl,A7,rfl,?_⟩⟩)⟩⟩;exact⟨_,rfl,(t _ (GF _ (by lia)) (FC _ k) _ _).1⟩
  .refine Cv rfl ⟨p,_,C0 rfl rfl ⟨II.of A7,rfl,Cv rfl ⟨p,_,C0 rfl rfl ⟨II.of A7,rfl,_,Cv rfl ⟨by lia,by lia,λC D G=>?_⟩⟩⟩⟩⟩;refine Cv rfl ⟨p,_,C0 rfl rfl ⟨II.of A7,rfl,C0 rfl rfl ⟨_,Cv rfl ⟨by lia,by lia,λI J L=>?_⟩⟩⟩⟩;refine C0 rfl rfl ⟨⟨by decide,by decide⟩,Cv rfl (C0 rfl rfl ⟨k,?_⟩)⟩;exact(t _ (GF _ (by lia)) (FC _ k) _ _).2
def pd(k:Str×Str):PyData:=.tuple [.str k.1,.str k.2]
def O7{x:Str}(h:N9 x=true):PySem.PyData.strOk x=true:=by
 unfold N9 at h;rw[CS]at h;unfold PySem.PyData.strOk;rw[<-Array.all_toList,EB];intro c a;have:=(EB.mp h.2) c a;unfold Es at this;rw[CS]at this;have:=BL this.2;exact AQ (by lia)
def n9{K:VA}{H:Hp}{t:A3}{k:Str×Str}(h:H t=some (.tup [.str k.1,.str k.2])):Rp K H (pd k) (.ref t):=by
 unfold pd;simp only[Rp,PR];exact⟨t,_,rfl,IV.of h,_,_,rfl,rfl,_,_,rfl,rfl,rfl⟩
def Io{K:VA}{H:Hp}:∀{ps:A0 IQ},(∀q∈ps,G9 H q)->PR K H (ps.map λq=>pd q.2) (G0 ps)
 | [],_=>by simp[PR,G0]
 | q::r,h=>by
  show PR K H (pd q.2::r.map λq=>pd q.2) (V.ref q.1::G0 r);simp only[PR];exact⟨_,_,rfl,n9 (h q (AX ..)),Io λz a=>h z (AL _ a)⟩
def En{K:VA}{H:Hp}{l:A3}{ps:A0 IQ}(a:H l=some (.lst (G0 ps)))(h:∀q∈ps,G9 H q):Rp K H (.list (ps.map λq=>pd q.2)) (.ref l):=by
 simp only[Rp];exact⟨l,_,rfl,II.of a,Io h⟩
def Qm(a b:Str×Str):PyData.eqv (pd a) (pd b)=decide (a=b):=by
 unfold pd;rw[PyData.eqv,PyData.eqvAll,PyData.eqvAll,PyData.eqvAll,PyData.eqv,PyData.eqv];by_cases c:a.1=b.1
 .by_cases d:a.2=b.2
  .rw[AQ (Prod.ext c d),c,d];simp
  .rw[AM λz=>d (congrArg Prod.snd z)];simp[d]
 .rw[AM λz=>c (congrArg Prod.fst z)];simp[c]
def Bv(k:Str×Str):∀ps:A0 IQ,((ps.map λq=>pd q.2).any λz=>PyData.eqv z (pd k))=decide (k∈ps.map λq=>q.2)
 | []=>rfl
 | q::r=>by
  rw[BM,GI,Bv k r,Qm,BM];by_cases e:q.2=k
  .rw[AQ e,Bool.true_or,AQ (show k∈q.2::_ from by rw[<-e];exact AX ..)]
  .rw[AM e,Bool.false_or];by_cases h:k∈r.map λq=>q.2
   .rw[AQ h,AQ (AL _ h)]
   .rw[AM h,AM λz=>(AU.mp z).elim (λz=>e z.symm) h]
def Cl{k:Str×Str}(h1:PySem.PyData.strOk k.1=true)(h2:PySem.PyData.strOk k.2=true):(pd k).canLay0=true:=by
 unfold pd;simp[PyData.canLay0,PyData.canLayAll0,h1,h2]
def Fz:∀{ps:A0 IQ},(∀q∈ps,PySem.PyData.strOk q.2.1=true/\PySem.PyData.strOk q.2.2=true)->PyData.canLayAll0 (ps.map λq=>pd q.2)=true
 | [],_=>rfl
 | q::r,h=>by
  rw[BM,PyData.canLayAll0,Cl (h q (AX ..)).1 (h q (AX ..)).2,Fz λz a=>h z (AL _ a)];rfl
def Ef{K:VA}{H:Hp}{t l:A3}{k:Str×Str}{ps:A0 IQ}{Q:VK}(b:H t=some (.tup [.str k.1,.str k.2]))(c:H l=some (.lst (G0 ps)))(d:∀q∈ps,G9 H q)
  (a:PySem.PyData.strOk k.1=true/\PySem.PyData.strOk k.2=true) (e:∀q∈ps,PySem.PyData.strOk q.2.1=true/\PySem.PyData.strOk q.2.2=true) (q:Q (.bl (!decide (k∈ps.map λq=>q.2))) H):SX K true (.ref t) (.ref l) H Q :=
 ⟨pd k,_,n9 b,.inl (En c d),⟨Cl a.1 a.2,by simp[pd,PyData.depth,PyData.depthAll]⟩,Fz e,by rw[AN rfl,Bv];exact q⟩
structure FL(H:Hp)(l:A3)(ps:A0 IQ)(ss:A0 Str):Prop where
 at_:H l=some (.lst (G0 ps))
 pin:∀q∈ps,G9 H q
 nm:∀q∈ps,q.2.1∈ss/\q.2.2∈ss
 nd:(ps.map λq=>q.2).Nodup
def FL.sm{H H':Hp}{p l:A3}{c:Int}{ps:A0 IQ}{ss:A0 Str}(h:FL H l ps ss)(L:IL H p c)(n:l≠p)(s:Sm [p] H H'):FL H' l ps ss:=by
 obtain⟨x,y,e,_⟩:=L;exact⟨Le s h.at_ n,λq a=>Le s (h.pin q a) (K0 (h.pin q a) e (by intro z;cases z)),h.nm,h.nd⟩
def FL.new{H:Hp}{l t:A3}{o:HO}{ps:A0 IQ}{ss:A0 Str}(h:FL H l ps ss)(n:H t=none):FL (H_ H t o) l ps ss :=
 ⟨by rw[B7 (B0 h.at_ n)];exact h.at_,λq a=>by unfold G9;rw[B7 (B0 (h.pin q a) n)];exact h.pin q a,h.nm,h.nd⟩
def FL.put{H:Hp}{l t:A3}{ps:A0 IQ}{ss:A0 Str}{x y:Str}(h:FL H l ps ss)(k:Nat)(b:H t=some (.tup [.str x,.str y]))(e:x∈ss)(f:y∈ss)(g:(x,y)∉ps.map λq=>q.2) :
  FL (H_ H l (.lst ((G0 ps).take k++V.ref t ::(G0 ps).drop k))) l (ps.take k ++(t,x,y)::ps.drop k) ss:=by
 have c:(ps.take k ++(t,x,y)::ps.drop k).Perm ((t,x,y)::ps):=by
  refine List.perm_middle.trans (List.Perm.cons _ ?_);rw[BX]
 have d:∀q∈ps.take k ++(t,x,y)::ps.drop k,q =(t,x,y)\/q∈ps:=λq a=>AU.mp (c.mem_iff.mp a);refine⟨?_,λq a=>?_,λq a=>?_,?_⟩
 .rw[A7];unfold G0;rw[AJ,List.map_take,BM,List.map_drop]
 .unfold G9;rcases d q a with rfl | z
  .rw[B7 (K0 b h.at_ (by intro z;cases z))];exact b
  .rw[B7 (K0 (h.pin q z) h.at_ (by intro z;cases z))];exact h.pin q z
 .rcases d q a with rfl | z
  .exact⟨e,f⟩
  .exact h.nm q z
 .rw[(c.map _).nodup_iff];show((x,y)::ps.map λq=>q.2).Nodup;exact CL.mpr ⟨g,h.nd⟩
def FL.app{H:Hp}{l t:A3}{ps:A0 IQ}{ss:A0 Str}{x y:Str}(h:FL H l ps ss)(a:H t=some (.tup [.str x,.str y]))(b:x∈ss)(c:y∈ss)(d:(x,y)∉ps.map λq=>q.2) :
  FL (H_ H l (.lst (G0 ps ++ [V.ref t]))) l (ps ++ [(t,x,y)]) ss:=by
 have:=h.put ps.length a b c d;have e:(G0 ps).length=ps.length:=by unfold G0;rw[AB]
 rw[<-e,BS,HU,e,BS,HU]at this;exact this
def Me{K:VA}{a D:A3}{b:A0 IQ}{r:St}{m:TT}{H:Hp}{Q:St->Hp->Prop}(p:IQ->Bool)(e:H a=some (.lst (G0 b)))(x:b.length<=1000)(n:H D=none)
  (z:∀y∈b,∀k,C3 H k->∀o:Bool->Hp->Prop,(∀g,C3 k g->o (p y) g)->m (some (.ref y.1)::r) k o) (h:∀σ g,C3 H g->g D=some (.lst (G0 (b.filter p)))->Q σ g) (q:A5 V) :
  Ax (P2 0) m (g7 D (V2 0)) (QF K a) (q::r) (H_ H D (.lst [])) Q:=by
 refine P8 (PP (K:=K) (II.of e)) (λi σ j=>(∃v,σ=v::r)/\C3 H j/\j D=some (.lst (G0 ((b.take i).filter p))))
  ⟨⟨_,rfl⟩,C3.new n,A7⟩ (λi σ k _ ⟨_,A,_⟩=>A.at a) ?_ ?_
 .rintro i σ j v N l ⟨⟨q,rfl⟩,f,d⟩ s;unfold G0 at l;rw[AH]at l;obtain⟨y,t,rfl⟩:=BF.mp l;refine z y (BB t) j f _ λB u=>?_;have d:=u _ _ d;have f:=f.trans u;have w:(b.take (i+1)).filter p =(b.take i).filter p++if p y=true then [y]else []:=by
   rw[E3 t,CM,BO,DQ]
  have C:(G0 ((b.take i).filter p)).length<=1000:=by
   unfold G0;rw[AB];have:=BC p (b.take i);rw[AZ]at this;lia
  refine Z7 (λc=>Cv rfl ⟨_,d,by rw[sizeLine_eq];lia,s _ _ ⟨⟨_,rfl⟩,f.upd n,?_⟩⟩) (λc=>s _ _ ⟨⟨_,rfl⟩,f,?_⟩)
  .rw[A7,w,AN c];unfold G0;rw[AJ];rfl
  .rw[w,AI c,BW];exact d
 .rintro σ j ⟨_,f,d⟩;unfold G0 at d;rw[AB,BS]at d;exact h σ j f d
theorem KB:IB ["self","one","other","strikes"] ["self","one","other"] (B6 KH):=KL
def i9(g h:A3):Sp:=λj H Q _=>∃(k p:A3) (a b:Str) (d:A0 Str) (e:A0 IQ) (m:Nat),j = [.ref k,.str a,.str b]/\KZ g h H k p d e m/\m<=1000/\a∈d/\b∈d/\(a,b)∈(e.map λq=>q.2) /\
 ∀l i c f,Bt k p H f->KZ g h f k p d c (m+1)->(c.map λq=>q.2).Perm ((e.map λq=>q.2).filter λq=>!decide (q =(a,b)))->H l=none->R3 (eK f k p) l i->(i.map λq=>q.2)=Bc (WG d e) (I0 (B2 c)) d->Q (.ref l) f
set_option maxHeartbeats 1000000 in
theorem Y7(T:Tx K mg):IM P w K mg base JR 8 T.am.f T.am.fd ["self","one","other"] (i9 T.aa T.ac):=by
 refine T.am.F.o1 KB λcdv A outer s H vs Q E I h=>?_
 .obtain⟨k,p,a,b,j,u,m,rfl,v,lm,ha,hb,hab,q⟩:=h;have hu:=Q9 I;refine⟨_,(A9 (M0 (V0 (Q6 (N0 (pv 0) T.ad T.ao.m (S6 T) (Rm I) T.ao.b .nil J6 (A6 (pv 1) (A6 (pv 2) A8))))) (B5 Z8) D8)
   (A9 (W9 (i:=3) (N':=["pair","one","other"]) (cap:=[none,some 1,some 2]) (cl:=[("other",_),("one",_)]) KB.nd rfl (.inl rfl) (P0 ⟨⟨rfl,rfl,rfl,rfl⟩,⟨⟨rfl,rfl,rfl,rfl⟩,trivial⟩⟩ ⟨rfl,⟨rfl,trivial⟩⟩) rfl (NB K (J5 (NE K (pv 0)) T.ag T.ae.m (I9 T) (Rm I) T.ae.b .nil J6)) (λ_ _ _ _=>by exact⟨(LM 0),(K8 (B8 (Xg K I.units) (pv 0) (J3 (A6 (pv 1) (A6 (pv 2) A8))) (D0 _))),(pv 0)⟩))
   (B5 (C1 (N0 (pv 0) T.ad T.ak.m (P4 T) (Rm I) T.ak.b .nil J6 (A6 (j8 T.bc (Q8 T) (Rm I) rfl T.bb T.ax .nil J6 (A6 (J5 (NE K (pv 0)) T.ag T.ab.m (E6 T) (Rm I) T.ab.b .nil J6) (A6 (pv 3) A8))) (A6 (E9 (A6 (pv 2) A8)) A8))))))),?_⟩
  refine B4 λM1 hM1=>?_;obtain⟨Z,x,g,r,kv,ks,rl,pl,N,W0,hg,wd,kk,pk,hp,lp⟩:=v.ex;have W:=W0.same V3;obtain⟨G,dx,a1,b1,c1,d1,kc,kd,ex,_,_,O,_⟩:=id W;refine Cv rfl ⟨k,Z,Cv rfl ⟨N,rfl,Cv rfl (Cv rfl ⟨k,p,a,b,j,u,m,rfl,v,ha,hb,λH1 s1=>⟨_,rfl,?_⟩⟩)⟩⟩;rw[AQ hab];refine P1 (hM1 _ _ (B4 λM2 hM2=>?_));have hk1:=s1 _ _ N;refine Cv rfl ⟨k,T.aa,Z,_,_,rfl,hk1,T.ad,T.ah,rfl,x,dx,Cv rfl ⟨s1 _ _ ex,rfl,x,j,u,rfl,W.same s1,λl2 hl2=>?_⟩⟩;have s2:=s1.trans (C3.new (o:=.lst (G0 u)) hl2);have f2:(H_ H1 l2 (.lst (G0 u))) l2=some (.lst (G0 u)):=A7;generalize H_ H1 l2 (.lst (G0 u))=H2 at s2 f2⊢;refine⟨l2,rfl,⟨_,II.of f2⟩,λD hD=>?_⟩;refine Me (λq=>!decide (q.2 =(a,b))) f2 (by have:=G.lenq;lia) hD (λy hy R s3 Q' hQ=>?_) (λσ R s3 e3=>?_) _
  .have ey:=s3 _ _ (s2 _ _ (O y hy));obtain⟨m1,m2⟩:=G.mem y hy;have oy:PySem.PyData.strOk y.2.1=true/\PySem.PyData.strOk y.2.2=true:=⟨O7 (v.nm _ m1),O7 (v.nm _ m2)⟩;have S:PySem.PyData.strOk a=true/\PySem.PyData.strOk b=true:=⟨O7 (v.nm _ ha),O7 (v.nm _ hb)⟩;unfold j7 OS;refine Cv rfl (Cv rfl (Cv rfl ⟨by show 2<=sizeLine;rw[sizeLine_eq];lia,λt ht=>?_⟩));have J:=C3.new (o:=.tup [.str a,.str b]) ht;have U:(H_ R t (.tup [.str a,.str b])) t=some (.tup [.str a,.str b]):=A7;generalize H_ R t (.tup [.str a,.str b])=H4 at J U⊢;refine⟨pd y.2,pd (a,b),n9 (J _ _ ey),n9 U,⟨Cl oy.1 oy.2,by simp[pd,PyData.depth,PyData.depthAll]⟩,⟨Cl S.1 S.2,by simp[pd,PyData.depth,PyData.depthAll]⟩,?_⟩;rw[Qm];exact⟨_,rfl,hQ _ J⟩
  refine hM2 _ _ ?_;have d:=s2.trans s3;refine Cv rfl ⟨k,Z,Cv rfl ⟨d _ _ N,rfl,?_⟩⟩;refine Cv rfl ⟨k,T.aa,Z,_,_,rfl,d _ _ N,T.ad,T.ah,rfl,x,dx,Cv rfl ⟨d _ _ ex,rfl,x,j,u,rfl,W.same d,λl1 hl1=>?_⟩⟩;have J:=C3.new (o:=.lst (j.map V.str)) hl1;have U:(H_ R l1 (.lst (j.map V.str))) l1=some (.lst (j.map V.str)):=A7;generalize H_ R l1 (.lst (j.map V.str))=H4 at J U⊢;have B:=d.trans J;refine Cv rfl ?_;intro y dy ny ndy ney;refine Ea ny ndy U (J _ _ e3) (λq hq=>G6 B O q (AY.mp hq).1) ⟨v.nm,G.nd,G.len⟩ ⟨λq hq=>G.mem q (AY.mp hq).1,G.ndq.sublist (DW.map _),VE (BC ..) G.lenq⟩ λns2 C H7 pn sn pq sq s7 W7 C7=>?_;rw[K7 sn G.srt pn]at W7 C7;have L:=B.trans s7;refine Cv rfl ⟨by show 1<=sizeLine;rw[sizeLine_eq];lia,λl5 X=>?_⟩;have u8:=C3.new (o:=.lst [.str b]) X;have f8:(H_ H7 l5 (.lst [.str b])) l5=some (.lst ([b].map V.str)):=A7;generalize H_ H7 l5 (.lst [.str b])=H8 at u8 f8⊢;have M:=L.trans u8;have Y:(C.map λq=>q.2).Perm ((u.map λq=>q.2).filter λq=>!decide (q =(a,b))):=(pq.map _).trans (FE (by rw[GG];rfl));have Wk:IR T.ac (eK H7 k p) y j C:=Mr (C7 p pl (.own p) (B _ _ hp)) (L _ _ N) (B0 (B _ _ N) ny).symm;refine⟨k,p,y,l5,j,j,[b],u,C,m,rfl,v.same M,lm,Wk.same (Bt.of u8).eK,v.nm,(B0 (L _ _ hp) X).symm,f8,λz hz=>by rw[AE.mp hz];exact hb,CL.mpr ⟨A_,D_⟩,λn hn nb=>⟨hn,λz=>?_⟩,λl rs H9 b9 K9 hl9 R9 q9=>q l rs C H9 ((Bt.of M).trans b9) K9 Y (M.free hl9) R9 q9⟩;rw[IT,IT,Y.mem_iff,AY];exact⟨λc=>⟨c,by
   rw[AM λe:(z,n) =(a,b)=>nb (by cases e;exact AE.mpr rfl)];rfl⟩,λc=>c.1⟩
theorem t7:IB ["self","name"] ["self","name"] (B6 LB):=KL
def Bk(g h:A3):Sp:=λj H Q _=>∃(k p:A3) (a:Str) (d:A0 Str) (f:A0 IQ) (m:Nat),j = [.ref k,.str a]/\KZ g h H k p d f m/\m<=1000/\N9 a=true/\a∉d/\d.length+1<=100 /\
 ∀l i b c e,Bt k p H e->KZ g h e k p b c (m+1)->b.Perm (d ++ [a])->c.Perm f->H l=none->R3 (eK e k p) l i->(i.map λq=>q.2)=Bc (WG d f) (I0 (B2 c)) b->Q (.ref l) e
set_option maxHeartbeats 1000000 in
theorem t9(T:Tx K mg):IM P w K mg base JR 8 T.au.f T.au.fd ["self","name"] (Bk T.aa T.ac):=by
 refine T.au.F.o1 t7 λcdv A outer s H vs Q E t h=>?_
 .obtain⟨k,p,a,i,j,m,rfl,hK,lm,ha,I,lq,q⟩:=h;have hu:=Q9 t;refine⟨_,(A9 (M0 (PW.pt (Ck (V0 (Q6 (C9 T.a3 (El T) (Rm t) (A6 (pv 1) A8)))) (X5 (B8 (Od K) (pv 1) (J5 (NE K (pv 0)) T.ag T.ab.m (E6 T) (Rm t) T.ab.b .nil J6) rfl)))) (B5 Z8) D8)
   (B5 (C1 (N0 (pv 0) T.ad T.ak.m (P4 T) (Rm t) T.ak.b .nil J6 (A6 (j8 T.bc (Q8 T) (Rm t) rfl T.bb T.ax .nil J6 (A6 (E8 Dr (J5 (NE K (pv 0)) T.ag T.ab.m (E6 T) (Rm t) T.ab.b .nil J6) (E9 (A6 (pv 1) A8))) (A6 (J5 (NE K (pv 0)) T.ag T.ae.m (I9 T) (Rm t) T.ae.b .nil J6) A8))) (A6 (E9 (A6 (pv 1) A8)) A8)))))),?_⟩
  refine B4 λM1 hM1=>?_;obtain⟨R,x,g,r,kv,ks,rl,pl,D,W0,hg,wd,kk,pk,hp,lp⟩:=hK.ex;have W:=W0.same V3;obtain⟨J,dx,a1,b1,c1,d1,kc,kd,ex,_,_,pin,_⟩:=id W;refine Cv rfl ⟨a,rfl,by have:=(Ho ha).2;lia,λH1 S=>⟨_,rfl,?_⟩⟩;rw[ha];have hk1:=S _ _ D;refine P1 (Cv rfl (Cv rfl ⟨k,T.aa,R,_,_,rfl,hk1,T.ad,T.ah,rfl,x,dx,Cv rfl ⟨S _ _ ex,rfl,x,i,j,rfl,W.same S,λl1 hl1=>?_⟩⟩));have G:=S.trans (C3.new (o:=.lst (i.map V.str)) hl1);refine V6 (.inl (II.of A7)) ⟨_,rfl,?_⟩;generalize H_ H1 l1 (.lst (i.map V.str))=H2 at G⊢;rw[AM I];refine P1 (hM1 _ _ ?_);refine Cv rfl ⟨k,R,Cv rfl ⟨G _ _ D,rfl,?_⟩⟩;refine Cv rfl ⟨k,T.aa,R,_,_,rfl,G _ _ D,T.ad,T.ah,rfl,x,dx,Cv rfl ⟨G _ _ ex,rfl,x,i,j,rfl,W.same G,λU hl2=>?_⟩⟩;have u3:=C3.new (o:=.lst (i.map V.str)) hl2;have L:(H_ H2 U (.lst (i.map V.str))) U=some (.lst (i.map V.str)):=A7;generalize H_ H2 U (.lst (i.map V.str))=H3 at u3 L⊢;have s3:=G.trans u3;refine Cv rfl ⟨by show 1<=sizeLine;rw[sizeLine_eq];lia,λX hl3=>?_⟩;have u4:=C3.new (o:=.lst [.str a]) hl3;have f4:(H_ H3 X (.lst [.str a])) X=some (.lst [.str a]):=A7;have L:=u4 _ _ L;generalize H_ H3 X (.lst [.str a])=H4 at u4 f4 L⊢;have s4:=s3.trans u4;refine⟨U,X,_,_,rfl,rfl,L,f4,by rw[AB,sizeLine_eq];show i.length+1<=_;lia,λl4 hl4=>?_⟩;have u5:=C3.new (o:=.lst (i.map V.str ++ [.str a])) hl4;have f5:(H_ H4 l4 (.lst (i.map V.str ++ [.str a]))) l4=some (.lst ((i ++ [a]).map V.str)):=by rw[A7,AJ];rfl
  generalize H_ H4 l4 (.lst (i.map V.str ++ [.str a]))=H5 at u5 f5⊢;have Y:=s4.trans u5;refine Cv rfl ⟨k,T.aa,R,_,_,rfl,Y _ _ D,T.ad,T.ah,rfl,x,dx,Cv rfl ⟨Y _ _ ex,rfl,x,i,j,rfl,W.same Y,λl6 hl6=>?_⟩⟩;have u6:=C3.new (o:=.lst (G0 j)) hl6;have f6:(H_ H5 l6 (.lst (G0 j))) l6=some (.lst (G0 j)):=A7;generalize H_ H5 l6 (.lst (G0 j))=H6 at u6 f6⊢;have Z:=Y.trans u6;have nda:(i ++ [a]).Nodup:=CI.mpr ⟨J.nd,CL.mpr ⟨A_,D_⟩,λc hc d hd e=>I (by rw[<-AE.mp hd,<-e];exact hc)⟩;have M:∀n∈i ++ [a],N9 n=true:=λn N=>(AO.mp N).elim (hK.nm n) λc=>by rw[AE.mp c];exact ha
  intro y dy ny ndy ney;refine Ea ny ndy (u6 _ _ f5) f6 (G6 Z pin) ⟨M,nda,by rw[AV];exact lq⟩ ⟨λq hq=>⟨AO.mpr (.inl (J.mem q hq).1),AO.mpr (.inl (J.mem q hq).2)⟩,J.ndq,J.lenq⟩ λu v H7 pn sn pq sq s7 W7 C7=>?_;have B:=Z.trans s7;refine Cv rfl ⟨by show 1<=sizeLine;rw[sizeLine_eq];lia,λl7 O=>?_⟩;have u8:=C3.new (o:=.lst [.str a]) O;have f8:(H_ H7 l7 (.lst [.str a])) l7=some (.lst ([a].map V.str)):=A7;generalize H_ H7 l7 (.lst [.str a])=H8 at u8 f8⊢;have C:=B.trans u8;have Wk:IR T.ac (eK H7 k p) y u v:=Mr (C7 p pl (.own p) (Z _ _ hp)) (B _ _ D) (B0 (Z _ _ D) ny).symm;refine⟨k,p,y,l7,i,u,[a],j,v,m,rfl,hK.same C,lm,Wk.same (Bt.of u8).eK,λn N=>M n (pn.mem_iff.mp N),(B0 (B _ _ hp) O).symm,f8,λz hz=>by rw[AE.mp hz];exact pn.mem_iff.mpr (AO.mpr (.inr (AE.mpr rfl))),CL.mpr ⟨A_,D_⟩,λn N nb=>⟨(AO.mp (pn.mem_iff.mp N)).resolve_right nb,λz=>?_⟩,λl rs H9 b9 K9 hl9 R9 q9=>q l rs u v H9 ((Bt.of C).trans b9) K9 pn pq (C.free hl9) R9 q9⟩;rw[IT,IT,(pq.map λq:IQ=>q.2).mem_iff]
theorem Aa:IB ["self"] ["self"] (B6 LH):=KL
def Ol(f c:A3):Sp:=λg H Q _=>∃(k p:A3) (d:A0 Str) (e:A0 IQ) (m:Nat),g = [.ref k]/\KZ f c H k p d e m/\∀(y:A3) (a:A0 IQ) (b:Hp),a.Perm e->C3 H b->H y=none->IR c b y d a->Q (.ref y) b
theorem Ae(T:Tx K mg):IM P w K mg base JR 6 T.ay.f T.ay.fd ["self"] (Ol T.aa T.ac):=by
 refine T.ay.F.o1 Aa λd A a s H B Q E e h=>?_
 .obtain⟨k,p,i,j,m,rfl,c,q⟩:=h;refine⟨_,(B5 (C1 (C9 T.a4 (Do T) (Rm e) (A6 (NE K (pv 0)) A8)))),?_⟩;obtain⟨l,x,g,r,C,D,G,I,n,o,J,L,kk,M,N,O⟩:=c.ex;exact Cv rfl ⟨k,T.aa,l,_,_,rfl,n,T.ad,T.ah,rfl,x,i,j,rfl,o.same V3,c.nm,λy b t u s v z _=>q y b t u s v z⟩
def Qf{b:A0 IQ}(h:(b.map λq=>q.2).Nodup)(n:Str):(C4 b n).Nodup:=by
 unfold C4;refine CT.mpr (List.Pairwise.imp_of_mem (fun{x y} c d a e=>a (Prod.ext ?_ e)) ((CT.mp h).filter _));rw[BL (AY.mp c).2,BL (AY.mp d).2]
theorem JE:IB ["self","name","struck","names","strikes"] ["self","name"] (B6 KW):=KL
def Ar(g h:A3):Sp:=λj H Q _=>∃(k p:A3) (a:Str) (d:A0 Str) (f:A0 IQ) (m:Nat),j = [.ref k,.str a]/\KZ g h H k p d f m/\m<=1000/\a∈d /\
 ∀l i b c e,Bt k p H e->KZ g h e k p b c (m+1)->b=d.filter (λn=>!decide (n=a))->(c.map λq=>q.2).Perm ((f.map λq=>q.2).filter λq=>!decide (a=q.1\/a=q.2))->H l=none->R3 (eK e k p) l i->(i.map λq=>q.2)=Bc (WG d f) (I0 (B2 c)) b->Q (.ref l) e
set_option maxHeartbeats 1000000 in
theorem m8(T:Tx K mg):IM P w K mg base JR 8 T.aq.f T.aq.fd ["self","name"] (Ar T.aa T.ac):=by
 refine T.aq.F.o1 JE λcdv A outer s H vs Q E M h=>?_
 .obtain⟨k,p,a,v,d,m,rfl,hK,lm,ha,q⟩:=h;have hu:=Q9 M;refine⟨_,(A9 (W9 (i:=2) (N':=["other","name"]) (cap:=[none,some 1]) (cl:=[("name",_)]) JE.nd rfl (.inl rfl) (P0 ⟨⟨rfl,rfl,rfl,rfl⟩,trivial⟩ ⟨rfl,trivial⟩) rfl (NB K (N0 (NE K (pv 0)) T.ag T.ap.m (S7 T) (Rm M) T.ap.b .nil J6 (A6 (pv 1) A8))) (λ_ _ _ _=>by exact⟨(LM 0),(K8 (B8 Db (pv 0) (pv 1) (D0 _))),(pv 0)⟩))
   (A9 (W9 (i:=3) (N':=["one","name"]) (cap:=[none,some 1]) (cl:=[("name",_)]) JE.nd rfl (.inl rfl) (P0 ⟨⟨rfl,rfl,rfl,rfl⟩,trivial⟩ ⟨rfl,trivial⟩) rfl (NB K (J5 (NE K (pv 0)) T.ag T.ab.m (E6 T) (Rm M) T.ab.b .nil J6)) (λ_ _ _ _=>by exact⟨(LM 0),(K8 (B8 Db (pv 0) (pv 1) (D0 _))),(pv 0)⟩))
   (A9 (W9 (i:=4) (N':=["pair","name"]) (cap:=[none,some 1]) (cl:=[("name",_)]) JE.nd rfl (.inl rfl) (P0 ⟨⟨rfl,rfl,rfl,rfl⟩,trivial⟩ ⟨rfl,trivial⟩) rfl (NB K (J5 (NE K (pv 0)) T.ag T.ae.m (I9 T) (Rm M) T.ae.b .nil J6)) (λ_ _ _ _=>by exact⟨(LM 0),(K8 (B8 (w9 K) (pv 1) (pv 0) rfl)),(pv 0)⟩))
   (B5 (C1 (N0 (pv 0) T.ad T.ak.m (P4 T) (Rm M) T.ak.b .nil J6 (A6 (j8 T.bc (Q8 T) (Rm M) rfl T.bb T.ax .nil J6 (A6 (pv 3) (A6 (pv 4) A8))) (A6 (pv 2) A8)))))))),?_⟩
  obtain⟨dk,x,g,r,kv,ks,rl,pl,N,W0,hg,wd,kk,pk,hp,lp⟩:=hK.ex;have W:=W0.same V3;obtain⟨j,dx,a1,b1,c1,d1,kc,kd,ex,_,_,R,_⟩:=id W;refine B4 λM1 hM1=>?_;refine Cv rfl ⟨k,T.aa,dk,_,_,rfl,N,T.ad,T.ah,rfl,x,dx,Cv rfl ⟨ex,rfl,Cv rfl ⟨x,a,v,d,rfl,W,ha,λl1 hl1=>?_⟩⟩⟩;have s1:=C3.new (o:=.lst ((C4 d a).map V.str)) hl1;have f1:(H_ H l1 (.lst ((C4 d a).map V.str))) l1=some (.lst ((C4 d a).map V.str)):=A7;generalize H_ H l1 (.lst ((C4 d a).map V.str))=H1 at s1 f1⊢;have lst:(C4 d a).length<=1000:=by
   unfold C4;rw[AB];have:=BC (λq:IQ=>decide (q.2.1=a)) d;have:=j.lenq;lia
  refine⟨l1,rfl,⟨_,II.of f1⟩,λD hD=>?_⟩;refine U9 (λn=>!decide (n=a)) f1 lst hD (λy hy H2 s2 Q' S=>?_) (λσ H2 s2 t=>?_) _
  .unfold j7 OS;refine Cv rfl (Cv rfl ⟨rfl,_,rfl,?_⟩);have:(!decide (V.str y=V.str a))=!decide (y=a):=congrArg Bool.not (EL.mpr ⟨λz=>V.str.inj z,λz=>congrArg V.str z⟩);rw[this];exact S H2 λb o e=>e
  refine hM1 _ _ (B4 λM2 hM2=>?_);have B:=s1.trans s2;refine Cv rfl ⟨k,T.aa,dk,_,_,rfl,B _ _ N,T.ad,T.ah,rfl,x,dx,Cv rfl ⟨B _ _ ex,rfl,x,v,d,rfl,W.same B,λl3 hl3=>?_⟩⟩;have u3:=C3.new (o:=.lst (v.map V.str)) hl3;have f3:(H_ H2 l3 (.lst (v.map V.str))) l3=some (.lst (v.map V.str)):=A7;have t:=u3 _ _ t;generalize H_ H2 l3 (.lst (v.map V.str))=H3 at u3 f3 t⊢;have s03:=B.trans u3;refine⟨l3,rfl,⟨_,II.of f3⟩,λD2 hD2=>?_⟩;refine U9 (λn=>!decide (n=a)) f3 (by have:=j.len;lia) hD2 (λy hy H4 s4 Q' S=>?_) (λσ H4 s4 O=>?_) _
  .unfold j7 OS;refine Cv rfl (Cv rfl ⟨rfl,_,rfl,?_⟩);have:(!decide (V.str y=V.str a))=!decide (y=a):=congrArg Bool.not (EL.mpr ⟨λz=>V.str.inj z,λz=>congrArg V.str z⟩);rw[this];exact S H4 λb o e=>e
  refine hM2 _ _ (B4 λM3 hM3=>?_);have C:=s03.trans s4;have t:=s4 _ _ t;refine Cv rfl ⟨k,T.aa,dk,_,_,rfl,C _ _ N,T.ad,T.ah,rfl,x,dx,Cv rfl ⟨C _ _ ex,rfl,x,v,d,rfl,W.same C,λl5 hl5=>?_⟩⟩;have u5:=C3.new (o:=.lst (G0 d)) hl5;have f5:(H_ H4 l5 (.lst (G0 d))) l5=some (.lst (G0 d)):=A7;have t:=u5 _ _ t;have O:=u5 _ _ O;generalize H_ H4 l5 (.lst (G0 d))=H5 at u5 f5 t O⊢;have U:=C.trans u5;refine⟨l5,rfl,⟨_,II.of f5⟩,λD3 hD3=>?_⟩;refine Me (λq=>!decide (a=q.2.1\/a=q.2.2)) f5 (by have:=j.lenq;lia) hD3 (λy hy H6 X Q' S=>?_) (λσ H6 X e6=>?_) _
  .have ey:=X _ _ (U _ _ (R y hy));refine Cv rfl (Cv rfl ?_);refine U6 (ss:=[y.2.1,y.2.2]) (.inr (IV.of ey)) ⟨_,rfl,?_⟩;have:(!decide (a∈[y.2.1,y.2.2]))=!decide (a=y.2.1\/a=y.2.2):=congrArg Bool.not (EL.mpr (by rw[AU,AE]));rw[this];exact S H6 λb o e=>e
  refine hM3 _ _ ?_;have u:=U.trans X;have t:=X _ _ t;have O:=X _ _ O;refine Cv rfl ⟨k,dk,Cv rfl ⟨u _ _ N,rfl,?_⟩⟩;refine Cv rfl (Cv rfl ?_);intro y dy ny ndy ney;refine Ea ny ndy O e6 (λq hq=>G6 u R q (AY.mp hq).1) ⟨λn G=>hK.nm n (AY.mp G).1,j.nd.filter _,VE (BC ..) j.len⟩ ⟨λq hq=>?_,j.ndq.sublist (DW.map _),VE (BC ..) j.lenq⟩ λI J H7 pn sn pq sq s7 W7 C7=>?_
  .obtain⟨q1,q2⟩:=AY.mp hq;have q3:¬(a=q.2.1\/a=q.2.2):=by simpa using q2
   exact⟨AY.mpr ⟨(j.mem q q1).1,by rw[AM λe=>q3 (.inl e.symm)];rfl⟩,AY.mpr ⟨(j.mem q q1).2,by rw[AM λe=>q3 (.inr e.symm)];rfl⟩⟩
  have Y:I=v.filter λn=>!decide (n=a):=K7 sn (j.srt.filter _) pn;have L:=u.trans s7;have Wk:IR T.ac (eK H7 k p) y I J:=Mr (C7 p pl (.own p) (u _ _ hp)) (L _ _ N) (B0 (u _ _ N) ny).symm;have Z:(J.map λq=>q.2).Perm ((d.map λq=>q.2).filter λq=>!decide (a=q.1\/a=q.2)):=(pq.map _).trans (FE (by rw[GG];rfl));have nDp:D≠p:=(B0 (s1 _ _ hp) hD).symm;refine Cv rfl ⟨k,p,y,D,v,I,(C4 d a).filter (λn=>!decide (n=a)),d,J,m,rfl,hK.same L,lm,Wk,λn G=>hK.nm n (by rw[Y]at G;exact(AY.mp G).1),nDp,s7 _ _ t,λz hz=>?_,?_,λn G nb=>⟨by rw[Y]at G;exact(AY.mp G).1,λz=>?_⟩,λl rs H9 b9 K9 hl9 R9 q9=>q l rs I J H9 ((Bt.of L).trans b9) K9 Y Z (L.free hl9) R9 q9⟩
  .obtain⟨z1,z2⟩:=AY.mp hz;rw[Y];exact AY.mpr ⟨Ai j.mem a ha z z1,z2⟩
  .exact List.Pairwise.filter _ (Qf j.ndq a)
  .rw[IT,IT,Z.mem_iff,AY];refine⟨λc=>⟨c,?_⟩,λc=>c.1⟩;have na:n≠a:=λe=>by
    rw[Y]at G;have:=(AY.mp G).2;rw[e,AQ rfl]at this;cases this
   have:¬(a=z\/a=n):=λo=>o.elim (λe=>nb (AY.mpr ⟨LN.mpr (e▸c),by rw[AM na];rfl⟩)) λe=>na e.symm;rw[AM this];rfl
structure PQ(H:Hp)(p v:A3)(ns:A0 Str)(ks:A0 (Str×Str))(A B:A0 Nat):Prop where
 ex:∃a s t,H v=some (.lst [.ref a,.ref s,.ref t])/\H a=some (.lst (ns.map V.str))/\H s=some (.lst (A.map Mw))/\H t=some (.lst (B.map Mw))/\v≠p/\a≠p/\s≠p/\t≠p
 mA:MB ns (ks.map λk=>(k.2,k.1)) A
 mB:MB ns ks B
def Rk{n j:Nat}(h:j<n):RS n (j:Int)=some j:=by
 unfold RS;rw[AN (by lia),AN (by lia),CH]
def Gh{B:A0 Nat}{a:Nat}(h:a<B.length):PN (B.map Mw) (a:Int)=some (.int ((B.getD a 0:Nat):Int)):=by
 refine O9 ?_;rw[AH,AF h,CA,AF h];rfl
def Ky(n:Nat):(List.replicate ((n:Int).toNat) [V.int 0]).flatten =(List.replicate n 0).map Mw:=by
 rw[CH]
 induction n with
 | zero=>rfl
 | succ n a =>
  rw[DB,FM,a,DB,BM];rfl
def Mx(B:A0 Nat)(a m:Nat):(B.map Mw).set a (.int (m:Int)) =(B.set a m).map Mw:=by
 rw[List.map_set];rfl
theorem JN:IB ["_law_names","_law_strikes","_law_strikers","_law_struck","_law_one","_law_other","_law_a","_law_b"] ["_law_names","_law_strikes"] (B6 NX):=KL
def Vg:Sp:=λe H Q _=>∃(n a:A3) (b:A0 Str) (ps:A0 IQ),e = [.ref n,.ref a]/\H n=some (.lst (b.map V.str))/\X6 b/\H a=some (.lst (G0 ps))/\(∀q∈ps,G9 H q)/\NT b ps /\
 ∀v c A B d,H v=none->C3 H d->c.Perm b->c.Pairwise NR->(∀p o,H p=some o->PQ d p v c (ps.map λq=>q.2) A B)->Q (.ref v) d
set_option maxHeartbeats 2000000 in
theorem Hl(T:Tx K mg):IM P w K mg base JR 1 T.a0.f T.a0.fd ["_law_names","_law_strikes"] Vg:=by
 refine T.a0.F.o1 JN λcdv A outer s H vs Q E hr h=>?_
 .obtain⟨n,a,ss,ps,rfl,hn,hN,ha,hP,hO,q⟩:=h;refine⟨_,(A9 (C6 (i:=0) JN.nd rfl (.inl rfl) (G7 (w4 K) T.av N8 (A6 (pv 0) A8)))
   (A9 (Yc (i:=2) (j:=3) rfl JN.nd rfl rfl (by decide) rfl rfl (A6 (E8 Yb (E9 (A6 B3 A8)) (G7 (Q2 K) T.as M9 (A6 (pv 0) A8))) (A6 (E8 Yb (E9 (A6 B3 A8)) (G7 (Q2 K) T.as M9 (A6 (pv 0) A8))) A8)) rfl)
   (A9 (U4 PassesOwn.never rfl (NB K (pv 1)) (RC K (n:=2) (E7 (J0 (i:=4) JN.nd rfl (.inl rfl)) (E7 (J0 (i:=5) JN.nd rfl (.inl rfl)) R0)))
   (A9 (Yc (i:=6) (j:=7) rfl JN.nd rfl rfl (by decide) rfl rfl (A6 (Ph K VG VJ VL (Mi K) (pv 0) (A6 (pv 4) A8)) (A6 (Ph K VG VJ VL (Mi K) (pv 0) (A6 (pv 5) A8)) A8)) rfl)
   (A9 (Cr (E8 Xa (E5 (KQ K) (pv 2) (pv 7) (λ_ _=>rfl)) (E8 Rb B3 (pv 6))) (Lb (pv 2) (pv 7) Bg))
   (B5 (Cr (E8 Xa (E5 (KQ K) (pv 3) (pv 6) (λ_ _=>rfl)) (E8 Rb B3 (pv 7))) (Lb (pv 3) (pv 6) Bg))))))
   (B5 (C1 (E9 (A6 (pv 0) (A6 (pv 2) (A6 (pv 3) A8))))))))),?_⟩
  refine Cv rfl ⟨n,ss,rfl,II.of hn,λl b hl D srt=>?_⟩;have R:b.Nodup:=D.nodup_iff.mpr hN.2.1;have S:(b.map V.str).length=b.length:=AB ..;have ln:b.length<=100:=by rw[D.length_eq];exact hN.2.2
  have s1:C3 H (H_ H l (.lst (b.map V.str))):=C3.new hl;refine⟨by show 1<=sizeLine;decide,λU d=>?_⟩;have s2:=s1.trans (C3.new (o:=.lst [V.int 0]) d);refine Cv rfl (C0 (a:=l) rfl (.inl (II.of ((C3.new d) _ _ A7))) ⟨U,C0 rfl rfl ⟨A7,by lia,by lia,by rw[S,CH,sizeLine_eq];show 1*b.length<=_;lia,λs W=>?_⟩⟩);rw[S,Ky];have hs1:H_ H l (.lst (b.map V.str)) s=none:=(C3.new d).free W;have G:H s=none:=s2.free W;have nls:l≠s:=B0 A7 hs1;have s3:=s2.trans (C3.new (o:=.lst ((List.replicate b.length 0).map Mw)) W);refine⟨by show 1<=sizeLine;decide,λI r=>?_⟩;have s4:=s3.trans (C3.new (o:=.lst [V.int 0]) r);have X:(H_ (H_ (H_ (H_ H l (.lst (b.map V.str))) U (.lst [V.int 0])) s (.lst ((List.replicate b.length 0).map Mw))) I (.lst [V.int 0])) l=some (.lst (b.map V.str)) :=
   (C3.new r) _ _ ((C3.new W) _ _ ((C3.new d) _ _ A7))
  have es:(H_ (H_ (H_ (H_ H l (.lst (b.map V.str))) U (.lst [V.int 0])) s (.lst ((List.replicate b.length 0).map Mw))) I (.lst [V.int 0])) s=some (.lst ((List.replicate b.length 0).map Mw)):=(C3.new r) _ _ A7;generalize hG:H_ (H_ (H_ (H_ H l (.lst (b.map V.str))) U (.lst [V.int 0])) s (.lst ((List.replicate b.length 0).map Mw))) I (.lst [V.int 0])=H4 at s4 X es⊢;have et2:H4 I=some (.lst [V.int 0]):=by rw[<-hG];exact A7
  refine Cv rfl (C0 (a:=l) rfl (.inl (II.of X)) ⟨I,C0 rfl rfl ⟨et2,by lia,by lia,by rw[S,CH,sizeLine_eq];show 1*b.length<=_;lia,λt Y=>?_⟩⟩);rw[S,Ky];have J:l≠t:=B0 X Y;have e:s≠t:=B0 es Y;have s5:=s4.trans (C3.new (o:=.lst ((List.replicate b.length 0).map Mw)) Y);have L:H t=none:=s4.free Y;refine⟨_,Cv rfl (Cv rfl ⟨a,rfl,⟨_,II.of (s5 _ _ ha)⟩,?_⟩)⟩;refine Ge (PP (K:=K) (II.of ha)) (λi σ u=>(∃v4 v5 v6 v7,σ = [some (.ref l),some (.ref a),some (.ref s),some (.ref t),v4,v5,v6,v7])/\C3 H u/\u l=some (.lst (b.map V.str)) /\
   ∃A B:A0 Nat,u s=some (.lst (A.map Mw))/\u t=some (.lst (B.map Mw))/\MB b ((ps.take i).map λq=>(q.2.2,q.2.1)) A/\MB b ((ps.take i).map λq=>q.2) B) ?_ ?_ ?_ ?_
  .exact⟨⟨_,_,_,_,rfl⟩,s5,by rw[B7 J];exact X,_,_,by rw[B7 e];exact es,A7,MB.zero b,MB.zero b⟩
  .rintro i σ u hi ⟨_,g,_⟩;exact g.at a
  .rintro i σ u v c ⟨⟨v4,v5,v6,v7,rfl⟩,g,x,A,B,Z,h4,y,C⟩ D1 hD1 _;unfold G0 at c;rw[AH]at c;cases M:ps[i]? with
   | none=>rw[M]at c;cases c
   | some q =>
    rw[M]at c;cases c;have hm:q∈ps:=BB M;obtain⟨m1,m2⟩:=hO.nm q hm;have m1:q.2.1∈b:=D.mem_iff.mpr m1;have m2:q.2.2∈b:=D.mem_iff.mpr m2;obtain⟨j,N⟩:=List.mem_iff_getElem?.mp m1;obtain⟨k,O⟩:=List.mem_iff_getElem?.mp m2;have lj:j<b.length:=(AK.mp N).1;have lk:k<b.length:=(AK.mp O).1;refine⟨q.1,Cv rfl ⟨IV.of (g _ _ (hP q hm)),rfl,_,Cv rfl (C0 rfl rfl ?_)⟩⟩;refine Cv rfl ⟨.inl ⟨rfl,_,II.of x⟩,Cv rfl ⟨l,b,q.2.1,j,rfl,rfl,II.of x,N,λm hm z=>by have:=Bi R z N;lia,?_⟩⟩;refine Cv rfl ⟨.inl ⟨rfl,_,II.of x⟩,Cv rfl ⟨l,b,q.2.2,k,rfl,rfl,II.of x,O,λm hm z=>by have:=Bi R z O;lia,?_⟩⟩;refine⟨_,Cv rfl ?_⟩;refine Cv rfl (Cv rfl ⟨s,_,C0 rfl rfl ⟨II.of Z,Gh (by rw[y.len];exact lk),Cv rfl (C0 rfl rfl ⟨⟨by lia,by lia,by decide⟩,C0 rfl rfl ?_⟩)⟩⟩);dsimp only;rw[zGt,bor];refine Cv rfl (Cv rfl ⟨s,_,_,k,rfl,rfl,Z,Rk (by rw[AB,y.len];exact lk),?_⟩);rw[Mx];refine Cv rfl (Cv rfl ⟨t,_,C0 rfl rfl ⟨II.of (by rw[B7 e.symm];exact h4),Gh (by rw[C.len];exact lj),Cv rfl (C0 rfl rfl ⟨⟨by lia,by lia,by decide⟩,C0 rfl rfl ?_⟩)⟩⟩);dsimp only;rw[zGt,bor];refine Cv rfl (Cv rfl ⟨t,_,_,j,rfl,rfl,by rw[B7 e.symm];exact h4,Rk (by rw[AB,C.len];exact lj),?_⟩);rw[Mx];refine hD1 _ _ ⟨⟨_,_,_,_,rfl⟩,(g.upd G).upd L,?_,A.set k (A.getD k 0 ||| 2^j),_,?_,A7,?_,?_⟩
    .rw[B7 J,B7 nls];exact x
    .rw[B7 e,A7]
    .rw[E3 M,AJ];exact y.step R O N
    .rw[E3 M,AJ];exact C.step R N O
  .rintro σ u ⟨⟨v4,v5,v6,v7,rfl⟩,g,x,A,B,Z,h4,y,C⟩;have lr:(G0 ps).length=ps.length:=by unfold G0;rw[AB]
   rw[lr,BS]at y C;refine Cv rfl (Cv rfl (Cv rfl ⟨by show 3<=sizeLine;decide,λv c=>?_⟩));have s9:=C3.new (o:=.lst [.ref l,.ref s,.ref t]) c;refine q v b A B _ (g.free c) (g.trans s9) D srt λp o hp=>⟨⟨l,s,t,A7,s9 _ _ x,s9 _ _ Z,s9 _ _ h4,(B0 (g _ _ hp) c).symm,(B0 hp hl).symm,(B0 hp G).symm,(B0 hp L).symm⟩,?_,C⟩;rw[BQ];exact y
def TK(B:A0 Nat)(m j:Nat):Prop:=∃k,m.testBit k=true/\(B.getD k 0).testBit j=true
def MZ(n:Nat)(A B:A0 Nat)(m j:Nat):Prop:=j<n/\∀b,(A.getD j 0).testBit b=true->TK B m b
def Hg(a h:Nat):decide (V.int (Builtin.bitAnd (a:Int) (Builtin.bitNot (h:Int)))=V.int 0)=true↔∀b,a.testBit b=true->h.testBit b=true:=by
 rw[decide_eq_true_iff,PyProof.Rows.bitAnd_not,zHb];constructor
 .intro e b c;injection e with e;have e:a=a &&& h:=by lia
  rw[e,Nat.testBit_and,CS]at c;exact c.2
 .intro k;have e:a &&& h=a:=Nat.eq_of_testBit_eq λb=>by
   rw[Nat.testBit_and];cases c:a.testBit b with
   | false=>rfl
   | true=>rw[k b c];rfl
  rw[e,Int.sub_self]
def zAd(d k j:Nat):(d ||| 2^k).testBit j=true↔d.testBit j=true\/j=k:=by
 rw[Nat.testBit_or,Bool.or_eq_true,Nat.testBit_two_pow,decide_eq_true_iff];exact⟨λh=>h.imp id Eq.symm,λh=>h.imp id Eq.symm⟩
theorem LL:IB ["_law_view","_law_mask","_law_hit_here","_law_k"] ["_law_view","_law_mask"] (B6 OZ):=KL
def zEb:Sp:=λb H Q _=>∃(p v:A3) (m:Nat) (a:A0 Str) (c:A0 (Str×Str)) (A B:A0 Nat),b = [.ref v,.int (m:Int)]/\PQ H p v a c A B/\a.length<=100 /\
 ∀h:Nat,(∀j,h.testBit j=true↔TK B m j)->Q (.int (h:Int)) H
theorem Dt(T:Tx K mg):IM P w K mg base JR 1 T.a6.f T.a6.fd ["_law_view","_law_mask"] zEb:=by
 refine T.a6.F.o1 LL λx A g s H J Q E L h=>?_
 .obtain⟨p,v,m,M,N,A,B,rfl,y,O,q⟩:=h;obtain⟨⟨a,s,t,r,C,R,D,_⟩,S,u⟩:=id y;refine⟨_,(A9 (C6 (i:=2) LL.nd rfl (.inl rfl) B3)
   (A9 (U4 PassesOwn.never rfl (Zl T.aH (A6 (G7 (Q2 K) T.as M9 (A6 (E5 (KQ K) (pv 0) B3 (λ_ _=>rfl)) A8)) A8)) (J0 (i:=3) LL.nd rfl (.inl rfl))
   (B5 (M0 (B8 U2 (E8 Mb (E8 Qb (pv 1) (pv 3)) B3) B3 (D0 _)) (B5 (C6 (i:=2) LL.nd rfl (.inl rfl) (E8 Xa (pv 2) (E5 (KQ K) (E5 (KQ K) (pv 0) B3 (λ_ _=>rfl)) (pv 3) (λ_ _=>rfl))))) D8)))
   (B5 (C1 (pv 2))))),?_⟩
  refine Cv rfl ⟨v,_,C0 rfl rfl ⟨II.of r,rfl,C0 (a:=a) rfl (.inl (II.of C)) (Cv rfl ⟨?_,?_,?_⟩)⟩⟩
  .lia
  .rw[AB];lia
  rw[AB,CH];refine U8 (λi σ l=>l=H/\∃(h:Nat) (n:A5 V),σ = [some (.ref v),some (.int (m:Int)),some (.int (h:Int)),n]/\∀j,h.testBit j=true↔∃k,k<i/\m.testBit k=true/\(B.getD k 0).testBit j=true) ?_ ?_ ?_
  .exact⟨rfl,0,_,rfl,λj=>by rw[FS];simp⟩
  .rintro i σ l G ⟨rfl,h,n,rfl,d⟩ U c _;rw[Int.zero_add];refine Cv rfl (Cv rfl (C0 rfl rfl ⟨(show(0:Int)<=(i:Int) by lia),C0 rfl rfl ⟨rfl,Cv rfl ?_⟩⟩));dsimp only;rw[zBu];refine Z7 (λo=>?_) (λo=>?_)
   .refine Cv rfl (Cv rfl ⟨v,_,C0 rfl rfl ⟨II.of r,rfl,Cv rfl ⟨t,_,C0 rfl rfl ⟨II.of D,Gh (by rw[u.len];exact G),C0 rfl rfl ?_⟩⟩⟩⟩);dsimp only;rw[bor];refine c _ _ ⟨rfl,_,_,rfl,λj=>?_⟩;rw[Nat.testBit_or,Bool.or_eq_true,d];constructor
    .rintro(⟨k,b,h2⟩ | h2)
     .exact⟨k,by lia,h2⟩
     .exact⟨i,by lia,o,h2⟩
    .rintro⟨k,b,h2⟩;by_cases e:k=i
     .rw[e]at h2;exact .inr h2.2
     .exact .inl ⟨k,by lia,h2⟩
   .refine c _ _ ⟨rfl,h,_,rfl,λj=>?_⟩;rw[d];constructor
    .rintro⟨k,b,h2⟩;exact⟨k,by lia,h2⟩
    .rintro⟨k,b,h2⟩;by_cases e:k=i
     .rw[e]at h2;exact absurd h2.1 o
     .exact⟨k,by lia,h2⟩
  .rintro σ l ⟨rfl,h,n,rfl,d⟩;refine Cv rfl (q h λj=>?_);rw[d];constructor
   .rintro⟨k,b,h2⟩;exact⟨k,h2⟩
   .rintro⟨k,b,h2⟩;refine⟨k,?_,b,h2⟩;obtain⟨z,_,I,_⟩:=(u.bit k j).mp h2;exact(AK.mp I).1
theorem KE:IB ["_law_view","_law_mask","_law_hit_here","_law_kept_here","_law_k"] ["_law_view","_law_mask"] (B6 OK):=KL
def zBj:Sp:=λb H Q _=>∃(p v:A3) (m:Nat) (a:A0 Str) (c:A0 (Str×Str)) (A B:A0 Nat),b = [.ref v,.int (m:Int)]/\PQ H p v a c A B/\a.length<=100 /\
 ∀h:Nat,(∀j,h.testBit j=true↔MZ a.length A B m j)->Q (.int (h:Int)) H
theorem Ce(T:Tx K mg):IM P w K mg base JR 2 T.aW.f T.aW.fd ["_law_view","_law_mask"] zBj:=by
 refine T.aW.F.o1 KE λM A x s H Z Q E N h=>?_
 .obtain⟨p,v,m,O,R,A,B,rfl,I,S,q⟩:=h;obtain⟨⟨a,s,t,J,U,W,e4,_⟩,X,mB⟩:=id I;refine⟨_,(A9 (C6 (i:=2) KE.nd rfl (.inl rfl) (C9 T.a6 (Dt T) (Rm N) (A6 (pv 0) (A6 (pv 1) A8))))
   (A9 (C6 (i:=3) KE.nd rfl (.inl rfl) B3)
   (A9 (U4 PassesOwn.never rfl (Zl T.aH (A6 (G7 (Q2 K) T.as M9 (A6 (E5 (KQ K) (pv 0) B3 (λ_ _=>rfl)) A8)) A8)) (J0 (i:=4) KE.nd rfl (.inl rfl))
   (B5 (M0 (B8 U2 (E8 Mb (E5 (KQ K) (E5 (KQ K) (pv 0) B3 (λ_ _=>rfl)) (pv 4) (λ_ _=>rfl)) (zGr zFd (pv 2))) B3 (D0 _)) (B5 (C6 (i:=3) KE.nd rfl (.inl rfl) (E8 Xa (pv 3) (E8 Rb B3 (pv 4))))) D8)))
   (B5 (C1 (pv 3)))))),?_⟩
  refine Cv rfl (Cv rfl (zGg (a:=p) (b:=v) (c:=m) (d:=O) (e:=R) (f:=A) (g:=B) rfl I S λo k=>?_));refine Cv rfl ⟨v,_,C0 rfl rfl ⟨II.of J,rfl,C0 (a:=a) rfl (.inl (II.of U)) (Cv rfl ⟨?_,?_,?_⟩)⟩⟩
  .lia
  .rw[AB];lia
  rw[AB,CH];refine U8 (λi σ y=>y=H/\∃(h:Nat) (C:A5 V),σ = [some (.ref v),some (.int (m:Int)),some (.int (o:Int)),some (.int (h:Int)),C]/\∀j,h.testBit j=true↔MZ i A B m j) ?_ ?_ ?_
  .exact⟨rfl,0,_,rfl,λj=>by rw[FS];exact⟨λz=>(by cases z),λz=>absurd z.1 (Nat.not_lt_zero _)⟩⟩
  .rintro i σ y Y ⟨rfl,h,C,rfl,u⟩ D1 r _;rw[Int.zero_add];refine Cv rfl ⟨v,_,C0 rfl rfl ⟨II.of J,rfl,Cv rfl ⟨s,_,C0 rfl rfl ⟨II.of W,Gh (by rw[X.len];exact Y),Cv rfl (Cv rfl (C0 rfl rfl ⟨rfl,Cv rfl ?_⟩))⟩⟩⟩⟩;dsimp only;have L:=Hg (A.getD i 0) o;refine Z7 (λD=>?_) (λD=>?_)
   .refine Cv rfl (Cv rfl (C0 rfl rfl ⟨⟨by lia,by lia,by decide⟩,C0 rfl rfl ?_⟩));dsimp only;rw[zGt,bor];refine r _ _ ⟨rfl,_,_,rfl,λj=>?_⟩;rw[zAd,u];constructor
    .rintro(⟨G,l⟩ | rfl)
     .exact⟨by lia,l⟩
     .exact⟨by lia,λb n=>(k b).mp (L.mp D b n)⟩
    .rintro⟨G,l⟩;by_cases e:j=i
     .exact .inr e
     .exact .inl ⟨by lia,l⟩
   .refine r _ _ ⟨rfl,h,_,rfl,λj=>?_⟩;rw[u];constructor
    .rintro⟨G,l⟩;exact⟨by lia,l⟩
    .rintro⟨G,l⟩;by_cases e:j=i
     .subst e;exact absurd (L.mpr λb n=>(k b).mpr (l b n)) D
     .exact⟨by lia,l⟩
  .rintro σ y ⟨rfl,h,C,rfl,u⟩;exact⟨_,rfl,q h u⟩
def SR(n m:Nat):Prop:=∀j,m.testBit j=true->j<n
def SR.zero(n:Nat):SR n 0:=λj a=>by rw[FS]at a;cases a
def Sub(c a:Nat):Prop:=∀j,c.testBit j=true->a.testBit j=true
def T7(m i:Nat):A0 Nat:=(List.range i).filter λk=>m.testBit k
def Jg(m i:Nat):T7 m (i+1)=T7 m i++if m.testBit i=true then [i]else []:=by
 unfold T7;rw[List.range_succ,CM,BO,DQ]
def Gs(m i:Nat):(T7 m i).length<=i:=VE (BC ..) (by rw[DX];exact VD _)
def Ym{m r:Nat}(s:Sub m r):∀n,(T7 m n).length<=(T7 r n).length/\((T7 m n).length =(T7 r n).length->∀j,j<n->m.testBit j=r.testBit j)
 | 0=>⟨VD _,λ_ j h=>absurd h (Nat.not_lt_zero _)⟩
 | n+1=>by
  obtain⟨b,d⟩:=Ym s n;have f:∀z,(T7 z (n+1)).length =(T7 z n).length+if z.testBit n=true then 1 else 0:=λz=>by
   rw[Jg,AV];split<;>rfl
  rw[f,f];cases a:m.testBit n with
  | true =>
   rw[s n a];refine⟨by simp;exact b,λe j g=>?_⟩;by_cases c:j=n
   .rw[c,a,s n a]
   .exact d (by simpa using e) j (by lia)
  | false =>
   cases i:r.testBit n with
   | true=>exact⟨by simp;lia,λe=>by simp at e;lia⟩
   | false =>
    refine⟨by simp;exact b,λe j g=>?_⟩;by_cases c:j=n
    .rw[c,a,i]
    .exact d (by simpa using e) j (by lia)
def zDs{n m r:Nat}(s:Sub m r)(lo:SR n r)(a:m≠r):(T7 m n).length <(T7 r n).length:=by
 obtain⟨b,d⟩:=Ym s n;refine FT b λe=>a (Nat.eq_of_testBit_eq λj=>?_);by_cases c:j<n
 .exact d e j c
 .rw[ET.mpr λz=>c (lo j z),ET.mpr λz=>c (lo j (s j z))]
def MZ.up{n:Nat}{A B:A0 Nat}{m r j:Nat}(s:Sub m r)(h:MZ n A B m j):MZ n A B r j:=⟨h.1,λb a=>let⟨k,c,d⟩:=h.2 b a;⟨k,s k c,d⟩⟩
theorem JY:IB ["_law_view","_law_mask","_law_more"] ["_law_view"] (B6 NY):=KL
def Iz(n:Nat)(A B:A0 Nat)(m:Nat):Prop:=SR n m/\(∀j,m.testBit j=true↔MZ n A B m j)/\∀X:Nat->Prop,(∀(r:Nat) j,(∀i,r.testBit i=true->X i)->MZ n A B r j->X j)->∀j,m.testBit j=true->X j
def Ss:Sp:=λb H Q _=>∃(p v:A3) (a:A0 Str) (c:A0 (Str×Str)) (A B:A0 Nat),b = [.ref v]/\PQ H p v a c A B/\a.length<=100/\∀m:Nat,Iz a.length A B m->Q (.int (m:Int)) H
theorem Ht(T:Tx K mg):IM P w K mg base JR 3 T.a1.f T.a1.fd ["_law_view"] Ss:=by
 refine T.a1.F.o1 JY λR A l s H V Q E D h=>?_
 .obtain⟨p,v,a,I,A,B,rfl,J,L,q⟩:=h;refine⟨_,(A9 (C6 (i:=1) JY.nd rfl (.inl rfl) B3)
   (A9 (C6 (i:=2) JY.nd rfl (.inl rfl) (C9 T.aW (Ce T) (Rm D) (A6 (pv 0) (A6 B3 A8))))
   (A9 (Fe PassesOwn.never (B8 Db (pv 2) (pv 1) (D0 _)) (A9 (C6 (i:=1) JY.nd rfl (.inl rfl) (pv 2))
   (B5 (C6 (i:=2) JY.nd rfl (.inl rfl) (C9 T.aW (Ce T) (Rm D) (A6 (pv 0) (A6 (pv 1) A8)))))))
   (B5 (C1 (pv 1)))))),?_⟩
  refine B4 λW n=>?_;refine n _ _ (B4 λY o=>?_);refine Cv rfl ⟨p,v,0,a,I,A,B,rfl,J,L,λr u=>?_⟩;refine o _ _ (B4 λZ x=>?_);refine⟨λt σ G=>G=H/\∃m r:Nat,σ = [some (.ref v),some (.int (m:Int)),some (.int (r:Int))]/\SR a.length m/\(∀j,r.testBit j=true↔MZ a.length A B m j)/\Sub m r/\t +(T7 m a.length).length=a.length/\∀X:Nat->Prop,(∀(r:Nat) j,(∀i,r.testBit i=true->X i)->MZ a.length A B r j->X j)->∀j,m.testBit j=true->X j,⟨a.length-(T7 0 a.length).length,rfl,0,r,rfl,SR.zero _,u,(λj h=>by rw[FS]at h;cases h),by have:=Gs 0 a.length;lia,λX _ j h=>by rw[FS]at h;cases h⟩,?_⟩;rintro t σ G ⟨rfl,m,r,rfl,lo,d,sub,ht,M⟩;have g:SR a.length r:=λj k=>((d j).mp k).1;refine Cv rfl (Cv rfl ⟨rfl,_,rfl,Z7 (λz=>?_) λz=>x _ _ (Cv rfl (q m ⟨lo,?_,M⟩))⟩)
  .have S:m≠r:=λe=>by
    rw[e]at z;simp at z
   refine⟨λσ' N=>N=G/\∃b:Nat,σ' = [some (.ref v),some (.int (r:Int)),some (.int (b:Int))]/\∀j,b.testBit j=true↔MZ a.length A B r j,λσ' N ⟨e,b,U,h⟩=>?_,?_⟩
   .have:=zDs sub g S;have:=Gs r a.length;exact⟨a.length-(T7 r a.length).length,by lia,e,r,b,U,g,h,λj k=>(h j).mpr (((d j).mp k).up sub),by lia,λX O j k=>O m j (M X O) ((d j).mp k)⟩
   .refine B4 λN4 y=>?_;refine Cv rfl (y _ _ ?_);exact Cv rfl (Cv rfl ⟨p,v,r,a,I,A,B,rfl,J,L,λb C=>⟨rfl,b,rfl,C⟩⟩)
  .have e:m=r:=Decidable.byContradiction λc=>z (by simpa using (show ¬((r:Int) =(m:Int))from λe=>c (by lia)));rw[<-e]at d;exact d
def MX:A0 Str:=["b","ab","x","know","c","m","ba","aba","xa","knowa","ca","ma","bbb","abbb","xbb","knowbb","cbb","mbb","bccc","abccc","xccc","knowccc","cccc","mccc","bdddd","abdddd","xdddd","knowdddd","cdddd","mdddd"]
abbrev SH:A0 Str:=["b","ab","x","know","c","m"]
abbrev RD:Str := "aabcd"
theorem QA:(∀x∈MX,N9 x=true)/\MX.Nodup:=⟨by decide +kernel,by decide +kernel⟩
def zHy(i:Nat):A5 Str:=(SH[i % 6]?).bind λx=>(RD.cps.toList[i / 6]?).map λc=>x++Jd ⟨#[c]⟩ (i / 6)
theorem Vd:∀i:Fin 30,zHy i.1=MX[i.1]?/\((MX[i.1]?).map λx=>decide (x.length<=8))=some true:=by decide +kernel
theorem Yo{i:Nat}(h:i<30):∃x c y,PN (SH.map V.str) ((i:Int) % 6)=some (.str x)/\PN RD.cps.toList ((i:Int) / 6)=some c/\x++Jd ⟨#[c]⟩ (i / 6)=y/\MX[i]?=some y/\x.length +(Jd ⟨#[c]⟩ (i / 6)).length<=8:=by
 obtain⟨a,b⟩:=Vd ⟨i,h⟩;unfold zHy at a;simp only at a b;cases d:SH[i % 6]? with
 | none=>rw[d]at a;rw[<-a]at b;cases b
 | some x =>
  cases f:RD.cps.toList[i / 6]? with
  | none=>rw[d,f]at a;rw[<-a]at b;cases b
  | some c =>
   rw[d,f]at a;have a:some (x++Jd ⟨#[c]⟩ (i / 6))=MX[i]?:=a;refine⟨x,c,_,?_,?_,rfl,a.symm,?_⟩
   .exact O9 (j:=i % 6) (by rw[AH,d];rfl)
   .exact O9 (j:=i / 6) f
   .rw[<-a]at b;have:(x++Jd ⟨#[c]⟩ (i / 6)).length<=8:=by
     have b:some (decide ((x++Jd ⟨#[c]⟩ (i / 6)).length<=8))=some true:=b;exact BL (BU b)
    have e:(x++Jd ⟨#[c]⟩ (i / 6)).length=x.length +(Jd ⟨#[c]⟩ (i / 6)).length:=HL;lia
theorem JX:IB ["_law_left_here","_law_many","_law_some","_law_k"] ["_law_left_here","_law_many"] (B6 LG):=KL
def Ez:Sp:=λe H Q _=>∃(p:A3) (c:Int) (a:Nat),e = [.ref p,.int (a:Int)]/\IL H p c/\c<=900000/\a<=30 /\
 ∀l (d:A0 Str) b,H l=none->Sm [p] H b->b l=some (.lst (d.map V.str))->d.length=a->X6 d->IL b p (c+a)->Q (.ref l) b
set_option maxHeartbeats 2000000 in
theorem y6(T:Tx K mg):IM P w K mg base JR 3 T.aG.f T.aG.fd ["_law_left_here","_law_many"] Ez:=by
 refine T.aG.F.o1 JX λcdv A L s H vs Q E hr h=>?_
 .obtain⟨p,c,l,rfl,hL,c1,m1,q⟩:=h;obtain⟨a0,b0,e0,c0⟩:=id hL;refine⟨_,(A9 (C6 (i:=2) JX.nd rfl (.inr rfl) (E9 A8))
   (@A9 _ _ _ _ _ (U4 PassesOwn.never rfl (Zl T.aH (A6 B3 A8)) (J0 (i:=3) JX.nd rfl (.inl rfl))
   (@B5 _ _ _ (J7 (Ph K VG VH VI S0 (pv 2) (@A6 _ _ _ _ _ (@E8 _ _ _ _ _ _ _ _ Ab (@E5 _ _ _ _ _ _ _ (KQ K) (@E9 _ _ _ _ (@A6 _ _ _ _ _ B9 (@A6 _ _ _ _ _ B9 (@A6 _ _ _ _ _ B9 (@A6 _ _ _ _ _ B9 (@A6 _ _ _ _ _ B9 (@A6 _ _ _ _ _ B9 A8 (by rfl)) (by rfl)) (by rfl)) (by rfl)) (by rfl)) (by rfl))) (E8 Dn (pv 3) B3) (λ_ _=>rfl)) (E8 Ou (E5 Ta B9 (E8 Gc (pv 3) B3) (λ_ _=>rfl)) (E8 Gc (pv 3) B3))) A8 (by rfl))))))
   (B5 (C1 (V5 (N':=["_law_k","_law_some","_law_left_here"]) (cap:=[none,some 2,some 0]) (cl:=[("_law_some",_),("_law_left_here",_)]) (P0 ⟨⟨rfl,rfl,rfl,rfl⟩,⟨⟨rfl,rfl,rfl,rfl⟩,trivial⟩⟩ ⟨rfl,⟨rfl,trivial⟩⟩) rfl (Zl T.aH (A6 (pv 1) A8)) (λ_ _ _ _=>by exact⟨(LM 0),P9,(Ph K VG PySem.F.slot_list_pop PySem.F.type_list_pop Vr (pv 1) (A6 (C9 T.af (C2 T) (Rm hr) (A6 (pv 2) (A6 (G7 (Q2 K) T.as M9 (A6 (pv 1) A8)) A8))) A8))⟩)))))),?_⟩
  refine⟨CB _,λa G=>?_⟩;have u:p≠a:=B0 e0 G;refine Cv rfl ⟨by decide,by decide,?_⟩;refine U8 (λi σ g=>(∃M,σ = [some (.ref p),some (.int (l:Int)),some (.ref a),M])/\C3 H g/\g a=some (.lst ((MX.take i).map V.str))) ?_ ?_ ?_
  .exact⟨⟨_,rfl⟩,C3.new G,A7⟩
  .rintro i σ g o ⟨⟨M,rfl⟩,r,k⟩ D1 O _;have o:i<30:=o;obtain⟨x,ch,y,n1,n2,n3,n4,n5⟩:=Yo o;rw[Int.zero_add];refine Cv rfl ⟨.inl ⟨rfl,_,II.of k⟩,by show 6<=sizeLine;decide,λt ht=>?_⟩;have R:a≠t:=B0 k ht;refine Cv rfl (C0 rfl rfl ⟨(show(0:Int)<6 by decide),t,_,C0 rfl rfl ⟨II.of A7,n1,Cv rfl (C0 rfl rfl ⟨⟨by decide,by decide⟩,_,C0 rfl rfl ⟨by decide,n2,Cv rfl (C0 rfl rfl ⟨⟨by decide,by decide⟩,_,_,i / 6,rfl,rfl,by lia,by lia,by show 1<=1000;decide,C0 rfl rfl ⟨by rw[sizeLine_eq];lia,?_⟩⟩)⟩⟩)⟩⟩);rw[n3];refine⟨a,C0 rfl rfl ⟨by rw[B7 R];exact k,?_,O _ _ ⟨⟨_,rfl⟩,?_,?_⟩⟩⟩
   .rw[AB,AZ,sizeLine_eq];lia
   .exact(r.trans (C3.new ht)).upd G
   .rw[A7,E3 n4,AJ];rfl
  .rintro σ g ⟨⟨M,rfl⟩,r,k⟩;have k:g a=some (.lst (MX.map V.str)):=k;dsimp only[TH,SW,P2,zHi,SF,V9,Jw];refine Cv rfl (Cv rfl ⟨by lia,by lia,λD v=>?_⟩);have z:p≠D:=B0 (r _ _ e0) v;have m:a≠D:=B0 k v;have B:H D=none:=r.free v;rw[CH];refine Eg (n:=l) (λi σ g=>(∃S,σ = [S,some (.ref a),some (.ref p)])/\Sm [p] H g/\IL g p (c+i)/\∃e j:A0 Str,g a=some (.lst (e.map V.str))/\g D=some (.lst (j.map V.str))/\(e++j).Perm MX/\j.length=i) ?_ ?_ ?_ ?_ ?_
   .exact⟨⟨_,rfl⟩,(r.trans (C3.new v)).sm,(hL.cast (by lia)).same (r.trans (C3.new v)),MX,[],by rw[B7 m];exact k,A7,by rw[BW],rfl⟩
   .intro i σ g o _;exact o
   .intro σ g _;exact VD _
   .rintro i σ g x H' N o ⟨⟨S,rfl⟩,U,W,e,j,k,X,I,J⟩ ⟨rfl,rfl⟩ hN;have hlen:e.length=30-i:=by
     have:=I.length_eq;rw[AV,J]at this;have:e.length+i=30:=this;lia
    refine Cj ?_;refine Cv rfl ⟨.inl ⟨rfl,_,II.of k⟩,Cv rfl (Cv rfl (C0 (a:=a) rfl (.inl (II.of k)) (S8 (a:=p) (b:=c+i) rfl W (by lia) ?_ ?_ λd H2 hd Y L2=>?_)))⟩
    .rw[AB];lia
    .rw[AB];lia
    rw[AB]at hd;have C:d<e.length:=by lia
    have hx:e[d]?=some e[d]:=AF C;have Z:=Le Y k u.symm;have eb2:=Le Y X z.symm;refine⟨a,_,_,d,.str e[d],rfl,rfl,Z,by lia,by lia,six (by rw[AB];exact C),by rw[AH,hx];rfl,_,by rw[B7 m.symm];exact eb2,?_,?_⟩
    .rw[AB,sizeLine_eq];lia
    refine hN _ _ ⟨⟨_,rfl⟩,?_,?_,e.eraseIdx d,j ++ [e[d]],?_,?_,Ws I hx,by rw[AV,J];rfl⟩
    .exact((U.trans Y).updN G).updN B
    .exact((L2.cast (by lia)).upd u).upd z
    .rw[B7 m,A7,Ie]
    .rw[A7,AJ];rfl
   .rintro σ g ⟨⟨S,rfl⟩,U,W,e,j,k,X,I,J⟩;exact q D j g B U X J (Vj I QA.1 QA.2 (by decide)) W
section
variable{ns:A0 Str}{ks:A0 (Str×Str)}{A B:A0 Nat}{m:Nat}{sk:Str->A0 Str}
theorem Xu(c:MB ns (ks.map λk=>(k.2,k.1)) A)(i j:Nat):(A.getD i 0).testBit j=true↔∃x y,ns[j]?=some x/\ns[i]?=some y/\(x,y)∈ks:=by
 rw[c.bit];constructor
 .rintro⟨k,d,a,b⟩;obtain⟨q,e,rfl⟩:=BK.mp d;exact⟨q.1,q.2,b,a,e⟩
 .rintro⟨x,y,a,b,f⟩;exact⟨(y,x),BK.mpr ⟨(x,y),f,rfl⟩,b,a⟩
theorem Ql(c:MB ns ks B)(i j:Nat):(B.getD i 0).testBit j=true↔∃x y,ns[i]?=some x/\ns[j]?=some y/\(x,y)∈ks:=by
 rw[c.bit];exact⟨λ⟨k,d,a,b⟩=>⟨k.1,k.2,a,b,d⟩,λ⟨x,y,a,b,e⟩=>⟨(x,y),e,a,b⟩⟩
theorem Mm(q:MB ns (ks.map λk=>(k.2,k.1)) A)(s:MB ns ks B)(t:Iz ns.length A B m)(f:∀n y,y∈sk n↔(y,n)∈ks)(c:∀k∈ks,k.1∈ns/\k.2∈ns){j:Nat}(h:m.testBit j=true):∃n,ns[j]?=some n/\GW sk n true:=by
 refine t.2.2 (λj=>∃n,ns[j]?=some n/\GW sk n true) (λr j u d=>?_) j h;obtain⟨i,d⟩:=d;refine⟨ns[j],AF i,GW.inn λy a=>?_⟩;have a:=(f _ _).mp a;obtain⟨b,v,e⟩:=EA.mp (c _ a).1;have l:ns[b]?=some y:=by rw[AF v,e]
 obtain⟨k,w,C⟩:=d b ((Xu q j b).mpr ⟨y,_,l,AF i,a⟩);obtain⟨z,D,g⟩:=u k w;obtain⟨x,F,o,p,E⟩:=(Ql s k b).mp C;rw[D]at o;cases o;rw[l]at p;cases p;exact GW.out ((f _ _).mpr E) g
theorem Mn(p:MB ns (ks.map λk=>(k.2,k.1)) A)(q:MB ns ks B)(r:Iz ns.length A B m)(f:∀n y,y∈sk n↔(y,n)∈ks)(c:∀k∈ks,k.1∈ns/\k.2∈ns){n:Str}{b:Bool}(g:GW sk n b):∀i,ns[i]?=some n->if b=true then m.testBit i=true else TK B m i:=by
 induction g with
 | inn h d =>
  rename_i n;intro i a;refine(r.2.1 i).mpr ⟨(AK.mp a).1,λb s=>?_⟩;obtain⟨x,y,t,j,u⟩:=(Xu p i b).mp s;rw[a]at j;cases j;exact d x ((f _ _).mpr u) b t
 | out h g d =>
  rename_i n y;intro i a;have l:=(f _ _).mp h;obtain⟨k,v,e⟩:=EA.mp (c _ l).1;have o:ns[k]?=some y:=by rw[AF v,e]
  exact⟨k,d k o,(Ql q k i).mpr ⟨y,n,o,a,l⟩⟩
theorem Uf(e:MB ns (ks.map λk=>(k.2,k.1)) A)(b:MB ns ks B)(f:Iz ns.length A B m)(c:∀n y,y∈sk n↔(y,n)∈ks)(a:∀k∈ks,k.1∈ns/\k.2∈ns){j:Nat}(h:TK B m j):∃n,ns[j]?=some n/\GW sk n false:=by
 obtain⟨k,i,l⟩:=h;obtain⟨z,o,g⟩:=Mm e b f c a i;obtain⟨x,y,d,p,q⟩:=(Ql b k j).mp l;rw[o]at d;cases d;exact⟨y,p,GW.out ((c _ _).mpr q) g⟩
theorem Tr(e:MB ns (ks.map λk=>(k.2,k.1)) A)(f:MB ns ks B)(l:Iz ns.length A B m)(o:∀n y,y∈sk n↔(y,n)∈ks)(a:∀k∈ks,k.1∈ns/\k.2∈ns){h i:Nat}(p:∀j,h.testBit j=true↔TK B m j){n:Str}(hi:ns[i]?=some n) :
  (if m.testBit i=true then I0 sk n=OU/\h.testBit i=false else if h.testBit i=true then I0 sk n=Kc else I0 sk n=OE):=by
 by_cases c:m.testBit i=true
 .rw[AN c];obtain⟨z,b,g⟩:=Mm e f l o a c;rw[hi]at b;cases b;refine⟨NG.mpr g,ET.mpr λd=>?_⟩;obtain⟨z,b,q⟩:=Uf e f l o a ((p i).mp d);rw[hi]at b;cases b;exact g.ne q
 .rw[AI c];have r:¬GW sk n true:=λg=>c (Mn e f l o a g i hi);by_cases d:h.testBit i=true
  .rw[AN d];obtain⟨z,b,g⟩:=Uf e f l o a ((p i).mp d);rw[hi]at b;cases b;exact MO.mpr g
  .rw[AI d];have s:¬GW sk n false:=λg=>d ((p i).mpr (Mn e f l o a g i hi));unfold I0;rw[AI r,AI s]
end
structure JQ(X:A0 A3)(H:Hp)(o:A3)(ss:A0 Str)(ps:A0 IQ):Prop where
 ex:∃a b,H o=some (.lst [.ref a,.ref b])/\H a=some (.lst (ss.map V.str))/\H b=some (.lst (G0 ps))/\o∉X/\a∉X/\b∉X
 pin:∀q∈ps,G9 H q/\q.1∉X
 nm:X6 ss
 st:NT ss ps
def JQ.sm{X:A0 A3}{H H':Hp}{o:A3}{ss:A0 Str}{ps:A0 IQ}(h:JQ X H o ss ps)(s:Sm X H H'):JQ X H' o ss ps:=by
 obtain⟨⟨a,b,i,j,k,e,f,g⟩,c,l,m⟩:=h;exact⟨⟨a,b,s _ _ i e,s _ _ j f,s _ _ k g,e,f,g⟩,λq d=>⟨s _ _ (c q d).1 (c q d).2,(c q d).2⟩,l,m⟩
def JQ.same{X:A0 A3}{H H':Hp}{o:A3}{ss:A0 Str}{ps:A0 IQ}(h:JQ X H o ss ps)(s:C3 H H'):JQ X H' o ss ps:=h.sm s.sm
def Td(m k:Nat):Builtin.bitAnd ((m:Int) / 2 ^((k:Int).toNat)) 1=if m.testBit k=true then 1 else 0:=by
 have a:(m:Int) / 2 ^((k:Int).toNat) =((m / 2^k:Nat):Int):=by rw[CH,Int.natCast_ediv,Int.natCast_pow];rfl
 have b:Builtin.bitAnd ((m / 2^k:Nat):Int) 1 =((m / 2^k % 2:Nat):Int):=by
  rw[show(1:Int) =((1:Nat):Int)from rfl,zHb,Nat.and_one_is_mod]
 rw[a,b,Nat.testBit_eq_decide_div_mod_eq];rcases Nat.mod_two_eq_zero_or_one (m / 2^k)with h | h
 .rw[h];rfl
 .rw[h];rfl
def t8(m h k:Nat):Str:=if m.testBit k=true then "in" else if h.testBit k=true then "out" else "open"
def Yw{m h k:Nat}(n:¬(m.testBit k=true/\h.testBit k=true)):PN [V.str "open",.str "in",.str "out"] (Builtin.bitAnd ((m:Int) / 2 ^((k:Int).toNat)) 1+2*Builtin.bitAnd ((h:Int) / 2 ^((k:Int).toNat)) 1)=some (.str (t8 m h k)):=by
 rw[Td,Td];unfold t8;by_cases b:m.testBit k=true
 .rw[AN b,AN b,AI λa=>n ⟨b,a⟩];rfl
 .rw[AI b,AI b];by_cases a:h.testBit k=true
  .rw[AN a,AN a];rfl
  .rw[AI a,AI a];rfl
def Iq(ns:A0 Str)(ps:A0 IQ):A0 (Str×Str):=ns.map λn=>(n,I0 (B2 ps) n)
theorem I1:IB ["_law_own","_law_view","_law_mask","_law_hit_here","_law_rows","_law_k","_law_name"] ["_law_own"] (B6 LR):=KL
def Vv:Sp:=λe H Q _=>∃(X:A0 A3) (o:A3) (d:A0 Str) (ps:A0 IQ),e = [.ref o]/\JQ X H o d ps /\
 ∀l b (c:A0 IQ) a,C3 H a->H l=none->b.Perm d->b.Pairwise NR->a l=some (.lst (G0 c))->(∀q∈c,G9 a q/\H q.1=none)->(c.map λq=>q.2)=Iq b ps->Q (.ref l) a
set_option maxHeartbeats 1000000 in
theorem X2(T:Tx K mg):IM P w K mg base JR 4 T.aA.f T.aA.fd ["_law_own"] Vv:=by
 refine T.aA.F.o1 I1 λcdv A outer s H vs Q E Y h=>?_
 .obtain⟨X,o,ss,ps,rfl,hO,q⟩:=h;have hu:=Q9 Y;refine⟨_,(A9 (C6 (i:=1) I1.nd rfl (.inl rfl) (C9 T.a0 (Hl T) (Rm Y) (A6 (E5 (KQ K) (pv 0) B3 (λ_ _=>rfl)) (A6 (E5 (KQ K) (pv 0) B3 (λ_ _=>rfl)) A8))))
   (A9 (C6 (i:=2) I1.nd rfl (.inl rfl) (C9 T.a1 (Ht T) (Rm Y) (A6 (pv 1) A8)))
   (A9 (C6 (i:=3) I1.nd rfl (.inl rfl) (C9 T.a6 (Dt T) (Rm Y) (A6 (pv 1) (A6 (pv 2) A8))))
   (A9 (C6 (i:=4) I1.nd rfl (.inl rfl) (E9 A8))
   (A9 (U4 PassesOwn.never rfl (zFu K T.a7 (A6 (E5 (KQ K) (pv 1) B3 (λ_ _=>rfl)) A8)) (RC K (n:=2) (E7 (J0 (i:=5) I1.nd rfl (.inl rfl)) (E7 (J0 (i:=6) I1.nd rfl (.inl rfl)) R0)))
   (B5 (J7 (Ph K VG VH VI S0 (pv 4) (A6 (J3 (A6 (pv 6) (A6 (E5 (KQ K) (E9 (A6 B9 (A6 B9 (A6 B9 A8)))) (E8 T6 (E8 Mb (E8 Qb (pv 2) (pv 5)) B3) (E8 i8 B3 (E8 Mb (E8 Qb (pv 3) (pv 5)) B3))) (λ_ _=>rfl)) A8))) A8)))))
   (B5 (C1 (pv 4)))))))),?_⟩
  obtain⟨⟨a,b,e1,e2,e3,n1,n2,n3⟩,pin,nm,st⟩:=id hO;refine B4 λN1 hN1=>?_;refine Cv rfl ⟨o,_,0,_,rfl,rfl,II.of e1,rfl,Cv rfl ⟨o,_,1,_,rfl,rfl,II.of e1,rfl,?_⟩⟩;refine⟨a,b,ss,ps,rfl,e2,nm,e3,λq p=>(pin q p).1,st,λv e A1 B1 H1 hv s1 pn srt hV=>?_⟩;have J:=hV o _ e1;have ln:e.length<=100:=by rw[pn.length_eq];exact nm.2.2
  refine hN1 _ _ (B4 λN2 hN2=>?_);refine Cv rfl ⟨o,v,e,_,A1,B1,rfl,J,ln,λm hm=>?_⟩;refine hN2 _ _ (B4 λN3 hN3=>?_);refine Cv rfl (Cv rfl ⟨o,v,m,e,_,A1,B1,rfl,J,ln,λh hh=>?_⟩);refine hN3 _ _ (B4 λN4 hN4=>?_);refine⟨CB _,λr j=>?_⟩;have Z:=C3.new (o:=.lst []) j;have f2:(H_ H1 r (.lst [])) r=some (.lst []):=A7;generalize H_ H1 r (.lst [])=H2 at Z f2⊢;obtain⟨I,s2,t2,g1,g2,_⟩:=J.ex;refine hN4 _ _ (B4 λN5 hN5=>?_);refine Cv rfl ⟨v,_,0,_,rfl,rfl,II.of (Z _ _ g1),rfl,I,e.map V.str,rfl,?_⟩;have nr:r≠I:=(B0 g2 j).symm;have C:=λ(i:Nat) (n:Str) (L:e[i]?=some n)=>Tr J.mA J.mB hm (sk:=B2 ps) (λn y=>IT) (λk M=>by
   obtain⟨q,p,rfl⟩:=BK.mp M;exact⟨pn.mem_iff.mpr (st.nm q p).1,pn.mem_iff.mpr (st.nm q p).2⟩) hh L
  refine Nc (.inl (II.of g2)) (Z.at I) λsq M=>Vu (n:=e.length) (λi σ l=>∃N O,σ = [some (.ref o),some (.ref v),some (.int (m:Int)),some (.int (h:Int)),some (.ref r),N,O]/\C3 H1 l/\∃D:A0 IQ,l r=some (.lst (G0 D))/\(∀q∈D,G9 l q/\H q.1=none)/\(D.map λq=>q.2)=Iq (e.take i) ps) ⟨_,_,rfl,Z,[],f2,λq p=>absurd p A_,rfl⟩ ?_ ?_ ?_ ?_
  .rintro i σ l L ⟨N,O,rfl,B,_⟩;exact⟨_,_,M _ (B.at I),by rw[AH,AF L];rfl⟩
  .rintro σ l ⟨N,O,rfl,B,_⟩;exact⟨_,M _ (B.at I),by rw[AB]⟩
  .rintro i σ l x H4 L ⟨N,O,rfl,B,D,L3,P3,R⟩ ⟨t,x,rfl,ht,rfl,hx⟩;have hx:=hx _ (M _ (B.at I));have G:e[i]?=some e[i]:=AF L;rw[AH,G]at hx;cases hx;refine⟨t,Cv rfl ⟨IV.of A7,rfl,_,Cv rfl (C0 rfl rfl ?_)⟩⟩;have u4:=C3.new (o:=.tup [.int (i:Int),.str e[i]]) ht;generalize H_ l t (.tup [.int (i:Int),.str e[i]])=H4 at u4⊢;have s4:=B.trans u4;have L4:=u4 _ _ L3;have lr:=congrArg List.length R;unfold Iq at lr;rw[AB,AB,AZ]at lr;refine Cv rfl ⟨.inl ⟨rfl,_,II.of L4⟩,?_⟩;have i0:(0:Int)<=(i:Int):=Int.natCast_nonneg i;have g:=C i _ G;have nq:¬(m.testBit i=true/\h.testBit i=true):=λz=>by
    rw[AN z.1]at g;rw[z.2]at g;cases g.2
   have eg:t8 m h i=I0 (B2 ps) e[i]:=by
    unfold t8;by_cases c:m.testBit i=true
    .rw[AN c]at g⊢;exact g.1.symm
    .rw[AI c]at g⊢;by_cases d:h.testBit i=true
     .rw[AN d]at g⊢;exact g.symm
     .rw[AI d]at g⊢;exact g.symm
   refine Cv rfl ⟨by show 3<=sizeLine;decide,λu hu=>?_⟩;have u5:=C3.new (o:=.lst [.str "open",.str "in",.str "out"]) hu;have e6:(H_ H4 u (.lst [.str "open",.str "in",.str "out"])) u=some (.lst [.str "open",.str "in",.str "out"]):=A7;generalize H_ H4 u (.lst [.str "open",.str "in",.str "out"])=H5 at u5 e6⊢;refine Cv rfl (Cv rfl (C0 rfl rfl ⟨i0,C0 rfl rfl (Cv rfl (Cv rfl (C0 rfl rfl ⟨i0,C0 rfl rfl (C0 rfl rfl ⟨.inl ⟨by decide,by decide⟩,C0 rfl rfl ⟨u,_,C0 rfl rfl ⟨II.of e6,Yw nq,?_⟩⟩⟩)⟩)))⟩));refine⟨by show 2<=sizeLine;decide,λS U=>?_⟩;have u6:=C3.new (o:=.tup [.str e[i],.str (t8 m h i)]) U;have f6:(H_ H5 S (.tup [.str e[i],.str (t8 m h i)])) S=some (.tup [.str e[i],.str (t8 m h i)]):=A7;generalize H_ H5 S (.tup [.str e[i],.str (t8 m h i)])=H6 at u6 f6⊢;have s6:=(s4.trans u5).trans u6;have W:=(u4.trans u5).trans u6;have L6:=W _ _ L3;have tr:S≠r:=K0 f6 L6 (by intro z;cases z);refine⟨r,_,_,rfl,rfl,L6,by unfold G0;rw[AB,sizeLine_eq];lia,_,_,rfl,s6.upd j,D ++ [(S,e[i],t8 m h i)],?_,λq p=>?_,?_⟩
   .rw[A7];unfold G0;rw[AJ];rfl
   .rcases AO.mp p with c | c
    .have:=W _ _ (P3 q c).1;exact⟨(B7 (K0 this L6 (by intro z;cases z))).trans this,(P3 q c).2⟩
    .rw[AE.mp c];exact⟨(B7 tr).trans f6,(s1.trans (s4.trans u5)).free U⟩
   .rw[E3 G,AJ,R,eg];unfold Iq;rw[AJ];rfl
  .rintro σ l ⟨N,O,rfl,B,D,L3,P3,R⟩;rw[BS]at R;exact hN5 _ _ (Cv rfl (q r e D l (s1.trans B) (s1.free j) pn srt L3 P3 R))
def Wy{K:VA}{a D:A3}{us:A0 IQ}{ss:A0 Str}{r:St}{f:Str->A5 Str}{g:Str->Str}{L:TT}{M:TE}{H:Hp}{Q:St->Hp->Prop}(e:H a=some (.lst (G0 us)))(B:∀q∈us,G9 H q)(O:(us.map λq=>q.2)=ss.map λn=>(n,g n))(len:ss.length<=1000)(P:H D=none)
  (C:∀y∈ss,∀j,C3 H j->∀m:Bool->Hp->Prop,m (Uj f g y) j->L (some (.str y)::some (.str (g y))::r) j m)
  (he:∀y∈ss,∀j,C3 H j->∀m:VK,(∀t,j t=none->m (.ref t) (H_ j t (.tup [.str y,oV (f y),.str (g y)])))->M (some (.str y)::some (.str (g y))::r) j m)
  (h:∀σ E b,C3 H E->R3 E D b->(b.map λq=>q.2)=Bc f g ss->Q σ E) (s w:A5 V) :
  Ax (SV K 2 (Dk (P2 0) (Dk (P2 1) TJ))) L (g7 D M) (QF K a) (s::w::r) (H_ H D (.lst [])) Q:=by
 have lu:us.length=ss.length:=by
  have:=congrArg List.length O
  rwa [AB,AB]at this
 refine P8 (PP (K:=K) (II.of e)) (λi σ d=>(∃s w,σ=s::w::r)/\C3 H d/\∃b,R3 d D b/\(b.map λq=>q.2)=Bc f g (ss.take i))
  ⟨⟨_,_,rfl⟩,C3.new P,[],⟨A7,λq x=>absurd x A_⟩,rfl⟩ (λi σ j _ ⟨_,s1,_⟩=>s1.at a) ?_ ?_
 .rintro i σ d v N F ⟨⟨s,w,rfl⟩,k,b,A,l⟩ R;unfold G0 at F;rw[AH]at F;obtain⟨u,S,rfl⟩:=BF.mp F;have T:(us.map λq=>q.2)[i]?=some u.2:=by rw[AH,S];rfl
  rw[O,AH]at T;obtain⟨y,U,ey⟩:=BF.mp T;have X:=BB U;have G:=k _ _ (B u (BB S));have G:d u.1=some (.tup [.str y,.str (g y)]):=by
   rw[G,<-ey]
  refine⟨u.1,Cv rfl ⟨IV.of G,rfl,_,Cv rfl (C0 rfl rfl ?_)⟩⟩;have Y:Bc f g (ss.take (i+1))=Bc f g (ss.take i)++if Uj f g y=true then [(y,f y,g y)]else []:=by
   unfold Bc;rw[E3 U,CM,BO,DQ,AJ];by_cases c:Uj f g y=true
   .rw[AN c,AN c];rfl
   .rw[AI c,AI c];rfl
  have hl:b.length<=1000:=by
   have Z:=congrArg List.length l;unfold Bc at Z;have:=BC (Uj f g) (ss.take i);rw[AB,AB]at Z;rw[AZ]at this;lia
  refine C y X d k _ (Z7 (λc=>he y X d k _ λt C=>?_) (λc=>R _ _ ⟨⟨_,_,rfl⟩,k,b,A,by rw[Y,AI c,BW];exact l⟩));have I:=C3.new (o:=.tup [.str y,oV (f y),.str (g y)]) C;have J:(H_ d t (.tup [.str y,oV (f y),.str (g y)])) t=some (.tup [.str y,oV (f y),.str (g y)]):=A7;generalize H_ d t (.tup [.str y,oV (f y),.str (g y)])=H4 at I J⊢;have p:=A.same I;refine⟨_,p.1,by rw[AB,sizeLine_eq];lia,R _ _ ⟨⟨_,_,rfl⟩,(k.trans I).upd P,b ++ [(t,y,f y,g y)],⟨?_,λq x=>?_⟩,?_⟩⟩
  .rw[A7,AJ];rfl
  .have nt:q.1≠D:=by
    rcases AO.mp x with c | c
    .exact K0 (p.2 q c) p.1 (by intro z;cases z)
    .rw[AE.mp c];exact K0 J p.1 (by intro z;cases z)
   rw[B7 nt];rcases AO.mp x with c | c
   .exact p.2 q c
   .rw[AE.mp c];exact J
  .rw[AJ,l,Y,AN c];rfl
 .rintro σ d ⟨_,k,b,A,l⟩;unfold G0 at l;rw[AB,lu,BS]at l;exact h σ d b k A l
theorem LF:IB ["_law_old","_law_new","_law_ahead"] ["_law_old","_law_new"] (B6 LU):=KL
def Px:Sp:=λj H Q _=>∃(a b:A3) (g c:A0 IQ) (f d:A0 Str) (ps e:A0 IQ),j = [.ref a,.ref b]/\H a=some (.lst (G0 g))/\(∀q∈g,G9 H q)/\(g.map λq=>q.2)=Iq f ps/\f.Nodup/\f.length<=100/\H b=some (.lst (G0 c))/\(∀q∈c,G9 H q)/\(c.map λq=>q.2)=Iq d e/\d.length<=100 /\
 ∀l i h,C3 H h->H l=none->R3 h l i->(i.map λq=>q.2)=Bc (WG f ps) (I0 (B2 e)) d->Q (.ref l) h
set_option maxHeartbeats 1000000 in
theorem Az(T:Tx K mg):IM P w K mg base JR 1 T.aL.f T.aL.fd ["_law_old","_law_new"] Px:=by
 refine T.aL.F.o1 LF λS A B s H vs Q E U h=>?_
 .obtain⟨a,b,p,W,e,X,ps,C,rfl,Y,Z,J,nd,ln,L,pb,qb,lb,q⟩:=h;have M:=Q9 U;refine⟨_,(A9 (C6 (i:=2) LF.nd rfl (.inr rfl) (Ag We T.bm Jm (A6 (pv 0) A8)))
   (B5 (C1 (V5 (N':=["_law_name","_law_word","_law_ahead"]) (cap:=[none,none,some 2]) (cl:=[("_law_ahead",_)]) (P0 ⟨⟨rfl,rfl,rfl,rfl⟩,trivial⟩ ⟨rfl,trivial⟩) rfl (NB K (pv 1)) (λ_ _ _ _=>by exact⟨(RC K (n:=2) (E7 (LM 0) (E7 (LM 1) R0))),(K8 (B8 Db (Y9 M (pv 2) (pv 0) ⟨rfl,rfl,rfl,rfl⟩) (pv 1) (D0 _))),(J3 (A6 (pv 0) (A6 (Y9 M (pv 2) (pv 0) ⟨rfl,rfl,rfl,rfl⟩) (A6 (pv 1) A8))))⟩))))),?_⟩
  refine B4 λN1 G=>?_;have lu:p.length<=1000:=by
   have:=congrArg List.length J;unfold Iq at this;rw[AB,AB]at this;lia
  refine Cv rfl ⟨a,p.map λq=>(q.1,(Sum.inr q.2.1:IS),V.str q.2.2),rfl,by rw[Y,BQ];rfl,λq hq=>?_,by rw[AB];exact lu,λd hd=>?_⟩
  .obtain⟨z,hz,rfl⟩:=BK.mp hq;exact Z z hz
  have ek:Y0 [] ((p.map λq=>(q.1,(Sum.inr q.2.1:IS),V.str q.2.2)).map λq=>q.2)=Y0 [] (e.map λn=>((Sum.inr n:IS),V.str (I0 (B2 ps) n))):=by
   have:((p.map λq=>(q.1,(Sum.inr q.2.1:IS),V.str q.2.2)).map λq=>q.2) =(p.map λq=>q.2).map λz=>((Sum.inr z.1:IS),V.str z.2):=by
    rw[BQ,BQ];rfl
   rw[this,J];unfold Iq;rw[BQ];rfl
  rw[ek];have N:WD (Y0 [] (e.map λn=>((Sum.inr n:IS),V.str (I0 (B2 ps) n)))) (WG e ps):=λn =>
   (WD.mrgG (l:=e) (kvs:=[]) (f:=λ_=>none) (g:=I0 (B2 ps)) (λn=>rfl) n).trans rfl
  generalize Y0 [] (e.map λn=>((Sum.inr n:IS),V.str (I0 (B2 ps) n)))=kvs at N⊢;have m:=C3.new (o:=.dK kvs) hd;have O:(H_ H d (.dK kvs)) d=some (.dK kvs):=A7;generalize H_ H d (.dK kvs)=H1 at m O⊢;refine G _ _ (Cv rfl ⟨b,rfl,⟨_,II.of (m _ _ L)⟩,λD R=>?_⟩);have r:∀(y:Str) (v:A5 V) (c:Hp) (u:VK),C3 H1 c->u (oV (WG e ps y)) c->Lx (V2 2) (V2 0) [some (.str y),v,some (.ref d)] c u:=λy v c u j q'=>by
   have x:=j _ _ O;refine Cv rfl ⟨d,rfl,.inl ⟨_,.inl x⟩,Cv rfl ⟨_,LJ.k (k:=.inr y) x,?_⟩⟩;rw[N y];exact q'
  refine Wy (f:=WG e ps) (g:=I0 (B2 C)) (m _ _ L) (G6 m pb) qb (by lia) R (λy hy c j u I=>?_) (λy hy c j u I=>?_) (λσ c rs j L2 x=>q D rs c (m.trans j) (m.free R) L2 x) _ _
  .unfold j7 OS;refine r y _ c _ j (Cv rfl ?_);refine⟨(Vf _ _).1,_,rfl,?_⟩;rw[(Vf _ _).2];exact I
  .exact Cv rfl (r y _ c _ j (Cv rfl ⟨by show 3<=sizeLine;rw[sizeLine_eq];lia,λt ht=>I t ht⟩))
def IL.ne{H:Hp}{p n:A3}{c:Int}{ss:A0 Str}(h:IL H p c)(d:H n=some (.lst (ss.map V.str))):n≠p:=by
 rintro rfl;obtain⟨a,b,e,_⟩:=h;rw[d]at e;cases ss with
 | nil=>cases e
 | cons x r=>cases e
def IL.neP{H:Hp}{p n:A3}{c:Int}{ss:A0 IQ}(h:IL H p c)(d:H n=some (.lst (G0 ss))):n≠p:=by
 rintro rfl;obtain⟨a,b,e,_⟩:=h;rw[d]at e;cases ss with
 | nil=>cases e
 | cons x r=>cases e
def zEc(d:Nat)(h:d<8):∃n:Nat,n<4/\PN [V.int 0,.int 0,.int 1,.int 1,.int 1,.int 2,.int 2,.int 3] (d:Int)=some (.int (n:Int)):=by
 suffices ∃n:Nat,n<4/\[V.int 0,.int 0,.int 1,.int 1,.int 1,.int 2,.int 2,.int 3][d]?=some (.int (n:Int)) by
  obtain⟨n,a,e⟩:=this;exact⟨n,a,O9 e⟩
 match d,h with
 | 0,_=>exact⟨0,by lia,rfl⟩
 | 1,_=>exact⟨0,by lia,rfl⟩
 | 2,_=>exact⟨1,by lia,rfl⟩
 | 3,_=>exact⟨1,by lia,rfl⟩
 | 4,_=>exact⟨1,by lia,rfl⟩
 | 5,_=>exact⟨2,by lia,rfl⟩
 | 6,_=>exact⟨2,by lia,rfl⟩
 | 7,_=>exact⟨3,by lia,rfl⟩
def Xe{a b c d:Nat}(e:a<9)(f:b<7)(g:c<4)(i:d<4)(j:Nat)(h:j<4):∃n:Nat,n<=28/\PN [V.int (20 +(a:Int)),.int (8 +(b:Int)),.int (4 +(c:Int)),.int (d:Int)] (j:Int)=some (.int (n:Int)):=by
 match j,h with
 | 0,_=>exact⟨20+a,by lia,O9 (j:=0) (by rw[Int.natCast_add];rfl)⟩
 | 1,_=>exact⟨8+b,by lia,O9 (j:=1) (by rw[Int.natCast_add];rfl)⟩
 | 2,_=>exact⟨4+c,by lia,O9 (j:=2) (by rw[Int.natCast_add];rfl)⟩
 | 3,_=>exact⟨d,by lia,O9 (j:=3) rfl⟩
theorem I7:IB ["_law_left_here","_law_way","_law_size","_law_names","_law_strikes","_law_turn","_law_pair"] ["_law_left_here"] (B6 LS):=KL
def Rj:Sp:=λd H Q _=>∃(p:A3) (c:Int),d = [.ref p]/\IL H p c/\c<=1000 /\
 ∀o b ps a,H o=none->Sm [p] H a->JQ [p] a o b ps->b.length<=28->ps.length<=56->Q (.ref o) a
set_option maxHeartbeats 1000000 in
theorem Aw(T:Tx K mg):IM P w K mg base JR 4 T.aK.f T.aK.fd ["_law_left_here"] Rj:=by
 refine T.aK.F.o1 I7 λcdv A outer s H vs Q E l h=>?_
 .obtain⟨p,c,rfl,hL,c1,q⟩:=h;have hu:=Q9 l;refine⟨_,(A9 (C6 (i:=1) I7.nd rfl (.inl rfl) (C9 T.af (C2 T) (Rm l) (A6 (pv 0) (A6 B3 A8))))
   (A9 (C6 (i:=2) I7.nd rfl (.inl rfl) (E9 (A6 (E8 T6 B3 (C9 T.af (C2 T) (Rm l) (A6 (pv 0) (A6 B3 A8)))) (A6 (E8 T6 B3 (C9 T.af (C2 T) (Rm l) (A6 (pv 0) (A6 B3 A8)))) (A6 (E8 T6 B3 (C9 T.af (C2 T) (Rm l) (A6 (pv 0) (A6 B3 A8)))) (A6 (C9 T.af (C2 T) (Rm l) (A6 (pv 0) (A6 B3 A8))) A8))))))
   (@A9 _ _ _ _ _ (@C6 _ _ 3 _ _ _ _ I7.nd rfl (.inl rfl) (C9 T.aG (y6 T) (Rm l) (@A6 _ _ _ _ _ (pv 0) (@A6 _ _ _ _ _ (@E5 _ _ _ _ _ _ _ (KQ K) (pv 2) (@E5 _ _ _ _ _ _ _ (KQ K) (@E9 _ _ _ _ (@A6 _ _ _ _ _ B3 (@A6 _ _ _ _ _ B3 (@A6 _ _ _ _ _ B3 (@A6 _ _ _ _ _ B3 (@A6 _ _ _ _ _ B3 (@A6 _ _ _ _ _ B3 (@A6 _ _ _ _ _ B3 (@A6 _ _ _ _ _ B3 A8 (by rfl)) (by rfl)) (by rfl)) (by rfl)) (by rfl)) (by rfl)) (by rfl)) (by rfl))) (pv 1) (λ_ _=>rfl)) (λ_ _=>rfl)) A8 (by rfl)) (by rfl))) (by rfl) (by first | exact .inl rfl | exact .inr rfl | assumption))
   (A9 (C6 (i:=4) I7.nd rfl (.inl rfl) (E9 A8))
   (A9 (U4 PassesOwn.never rfl (Zl T.aH (A6 (C9 T.af (C2 T) (Rm l) (A6 (pv 0) (A6 (E8 T6 (E8 i8 B3 (G7 (Q2 K) T.as M9 (A6 (pv 3) A8))) B3) A8))) A8)) (J0 (i:=5) I7.nd rfl (.inl rfl))
   (A9 (C6 (i:=6) I7.nd rfl (.inl rfl) (J3 (A6 (E5 (KQ K) (pv 3) (C9 T.af (C2 T) (Rm l) (A6 (pv 0) (A6 (G7 (Q2 K) T.as M9 (A6 (pv 3) A8)) A8))) (λ_ _=>rfl)) (A6 (E5 (KQ K) (pv 3) (C9 T.af (C2 T) (Rm l) (A6 (pv 0) (A6 (G7 (Q2 K) T.as M9 (A6 (pv 3) A8)) A8))) (λ_ _=>rfl)) A8))))
   (B5 (M0 (B8 (Mh K l.units) (pv 6) (pv 4) rfl) (B5 (J7 (Ph K VG VH VI S0 (pv 4) (A6 (pv 6) A8)))) D8))))
   (B5 (C1 (E9 (A6 (pv 3) (A6 (pv 4) A8)))))))))),?_⟩
  refine B4 λN1 hN1=>?_;obtain⟨a0,b0,e0,c0⟩:=id hL;refine Cv rfl (S8 (a:=p) (b:=c) rfl hL (by lia) (by decide) (by decide) λO R hw k1 L1=>?_);refine hN1 _ _ (B4 λN2 hN2=>?_);refine Cv rfl (S8 (a:=p) rfl L1 (by lia) (by decide) (by decide) λS H2 B k2 L2=>C0 rfl rfl ?_);refine Cv rfl (S8 (a:=p) rfl L2 (by lia) (by decide) (by decide) λU H3 h2 k3 L3=>C0 rfl rfl ?_);refine Cv rfl (S8 (a:=p) rfl L3 (by lia) (by decide) (by decide) λW H4 h3 k4 L4=>C0 rfl rfl ?_);refine Cv rfl (S8 (a:=p) rfl L4 (by lia) (by decide) (by decide) λX H5 h4 k5 L5=>?_);have k15:=(((k1.trans k2).trans k3).trans k4).trans k5;refine⟨by show 4<=sizeLine;decide,λz hz=>?_⟩;have u6:=C3.new (o:=.lst [V.int (20 +(S:Int)),.int (8 +(U:Int)),.int (4 +(W:Int)),.int (X:Int)]) hz;have Y:(H_ H5 z (.lst [V.int (20 +(S:Int)),.int (8 +(U:Int)),.int (4 +(W:Int)),.int (X:Int)])) z=some (.lst [V.int (20 +(S:Int)),.int (8 +(U:Int)),.int (4 +(W:Int)),.int (X:Int)]):=A7;have L6:=L5.same u6;have k6:=k15.trans u6.sm;refine hN2 _ _ ?_;generalize H_ H5 z (.lst [V.int (20 +(S:Int)),.int (8 +(U:Int)),.int (4 +(W:Int)),.int (X:Int)])=H6 at Y L6 k6⊢;refine B4 λN3 hN3=>?_;refine Cv rfl (Cv rfl ⟨by show 8<=sizeLine;decide,λz2 hz2=>?_⟩);obtain⟨j,hj,ej⟩:=zEc O (by lia);obtain⟨n,hn,en⟩:=Xe (by lia:S<9) (by lia:U<7) (by lia:W<4) (by lia:X<4) j hj;have u7:=C3.new (o:=.lst [V.int 0,.int 0,.int 1,.int 1,.int 1,.int 2,.int 2,.int 3]) hz2;have f7:(H_ H6 z2 (.lst [V.int 0,.int 0,.int 1,.int 1,.int 1,.int 2,.int 2,.int 3])) z2=some (.lst [V.int 0,.int 0,.int 1,.int 1,.int 1,.int 2,.int 2,.int 3]):=A7;have Y:=u7 _ _ Y;have L7:=L6.same u7;have k7:=k6.trans u7.sm;generalize H_ H6 z2 (.lst [V.int 0,.int 0,.int 1,.int 1,.int 1,.int 2,.int 2,.int 3])=H7 at Y f7 L7 k7⊢;refine Cv rfl ⟨z2,_,_,_,rfl,rfl,II.of f7,ej,z,_,_,_,rfl,rfl,II.of Y,en,?_⟩;refine⟨p,_,n,rfl,L7,by lia,by lia,λa d H8 ha k8 e8 len8 Z L8=>?_⟩;have k08:=k7.trans k8;have k7:Sm [p] H H7:=k7;refine hN3 _ _ (B4 λN4 hN4=>?_);refine⟨CB _,λf hf=>?_⟩;have u9:=C3.new (o:=.lst []) hf;have f9:(H_ H8 f (.lst [])) f=some (.lst []):=A7;have L9:=L8.same u9;have e9:=u9 _ _ e8;have k9:=k08.trans u9.sm;have g:p≠f:=B0 L8.get hf;generalize H_ H8 f (.lst [])=H9 at f9 L9 e9 k9⊢;refine hN4 _ _ (B4 λN5 hN5=>?_);refine Cv rfl (Cv rfl ⟨a,_,rfl,.inl (II.of e9),C0 rfl rfl ⟨.inl ⟨by decide,by decide⟩,C0 rfl rfl ?_⟩⟩);rw[AB];refine S8 (a:=p) rfl L9 (by lia) (by lia) (by lia) λD H10 ht10 G L10=>?_;refine⟨(D:Int),rfl,by lia,by lia,?_⟩;rw[CH];have k010:=k9.trans G;have ap:a≠p:=L9.ne e9;have e10:=Le G e9 ap;have f10:=Le G f9 g.symm;have nm:∀x∈d,PySem.PyData.strOk x=true:=λx hx=>O7 (Z.1 x hx);refine U8 (λi σ R=>∃v5 v6 ps,σ = [some (.ref p),some (.int (O:Int)),some (.ref z),some (.ref a),some (.ref f),v5,v6]/\Sm [p] H R/\IL R p (c+1+1+1+1+1+n+1+2*i)/\R a=some (.lst (d.map V.str))/\FL R f ps d/\ps.length<=i) ?_ ?_ ?_
  .exact⟨_,_,[],rfl,k010,by simpa using L10,e10,⟨f10,λq M=>absurd M A_,λq M=>absurd M A_,D_⟩,VD _⟩
  .rintro i σ G1 hi ⟨v5,v6,ps,rfl,g1,M1,ea,I,lp⟩ D1 hD1 _;rw[Int.zero_add];have pos:0<d.length:=by lia
   refine Cv rfl (Cv rfl (Cv rfl ⟨a,_,rfl,.inl (II.of ea),?_⟩));rw[AB];refine S8 (a:=p) rfl M1 (by lia) (by lia) (by lia) λm G2 hx1 g2 M2=>?_;have J:=Le g2 ea ap;have F2:=I.sm M1 g.symm g2;have hn1:d[m]?=some d[m]:=AF (by lia);refine⟨a,_,_,_,rfl,rfl,II.of J,O9 (j:=m) (by rw[AH,hn1];rfl),?_⟩;refine Cv rfl (Cv rfl (Cv rfl ⟨a,_,rfl,.inl (II.of J),?_⟩));rw[AB];refine S8 (a:=p) rfl M2 (by lia) (by lia) (by lia) λu G3 hx2 g3 M3=>?_;have ea3:=Le g3 J ap;have F3:=F2.sm M2 g.symm g3;have hn2:d[u]?=some d[u]:=AF (by lia);refine⟨a,_,_,_,rfl,rfl,II.of ea3,O9 (j:=u) (by rw[AH,hn2];rfl),?_⟩;refine⟨by show 2<=sizeLine;decide,λt ht=>?_⟩;have hm1:d[m]∈d:=DD _;have hm2:d[u]∈d:=DD _;have u4:=C3.new (o:=.tup [.str d[m],.str d[u]]) ht;have f4:(H_ G3 t (.tup [.str d[m],.str d[u]])) t=some (.tup [.str d[m],.str d[u]]):=A7;have v:=F3.new (o:=.tup [.str d[m],.str d[u]]) ht;have M4:=M3.same u4;have C:=u4 _ _ ea3;have L:=((g1.trans g2).trans g3).trans u4.sm;generalize H_ G3 t (.tup [.str d[m],.str d[u]])=G4 at u4 f4 v M4 C L⊢;refine Cv rfl (Cv rfl (Ef (k:=(d[m],d[u])) f4 v.at_ v.pin ⟨nm _ hm1,nm _ hm2⟩ (λq M=>⟨nm _ (v.nm q M).1,nm _ (v.nm q M).2⟩) ⟨_,rfl,?_⟩));have eM:c+1+1+1+1+1+n+1+2 *(i:Int)+1+1=c+1+1+1+1+1+n+1+2 *((i+1:Nat):Int):=by lia
   rw[eM]at M4;refine Z7 (λh3=>?_) (λh3=>hD1 _ _ ⟨_,_,ps,rfl,L,M4,C,v,by lia⟩);have h3':(d[m],d[u])∉ps.map λq=>q.2:=by simpa using h3
   refine Cv rfl ⟨.inl ⟨rfl,_,II.of v.at_⟩,Cv rfl ⟨f,_,_,rfl,rfl,v.at_,by unfold G0;rw[AB,sizeLine_eq];lia,?_⟩⟩;have af:a≠f:=λe=>by
    have B:=v.at_;rw[<-e,C]at B;cases d with
    | nil=>exact absurd pos (by simp)
    | cons y r =>
     injection B with B;injection B with B;unfold G0 at B;cases ps with
     | nil=>cases B
     | cons y r=>cases B
   exact hD1 _ _ ⟨_,_,_,rfl,L.updN (by
    cases e:H f with
    | none=>rfl
    | some o=>exact absurd (k08 _ _ e (by simpa using g.symm)) (by rw[hf];intro z;cases z)),M4.upd g,(B7 af).trans C,v.app f4 hm1 hm2 h3',by rw[AV];exact E_ lp⟩
  .rintro σ G1 ⟨v5,v6,ps,rfl,g1,M1,ea,I,lp⟩;refine hN5 _ _ (Cv rfl (Cv rfl ⟨by show 2<=sizeLine;decide,λo N=>?_⟩));have u2:=C3.new (o:=.lst [.ref a,.ref f]) N;have ho0:H o=none:=by
    cases e:H o with
    | none=>rfl
    | some x =>
     have hop:o≠p:=λz=>by
      rw[z,M1.get]at N;cases N
     exact absurd (g1 _ _ e (by simpa using hop)) (by rw[N];intro z;cases z)
   have nop:o≠p:=λz=>by rw[z,M1.get]at N;cases N
   refine q o d ps _ ho0 (g1.trans u2.sm) ⟨⟨a,f,A7,u2 _ _ ea,u2 _ _ I.at_,by simpa using nop,by simpa using ap,by simpa using g.symm⟩,λz hz=>⟨u2 _ _ (I.pin z hz),?_⟩,Z,⟨I.nm,I.nd,by lia⟩⟩ (by lia) (by lia);obtain⟨xa,xb,em,_⟩:=id M1;have:=K0 (I.pin z hz) em (by intro z;cases z);simpa using this
def JQ.smp{X:A0 A3}{H H':Hp}{o p:A3}{ss:A0 Str}{ps:A0 IQ}(h:JQ X H o ss ps)(a:p∈X)(s:Sm [p] H H'):JQ X H' o ss ps:=h.sm λb x e c=>s b x e λz=>c (by rw[AE.mp z];exact a)
def Ty:∀ds:A0 PyData,PyData.eqv (.list ds) (.list [])=ds.isEmpty
 | []=>by rw[PyData.eqv,PyData.eqvAll];rfl
 | _::_=>by rw[PyData.eqv,PyData.eqvAll];rfl
def Mq:∀{ss:A0 Str},(∀x∈ss,PySem.PyData.strOk x=true)->PyData.canLayAll0 (ss.map PyData.str)=true
 | [],_=>rfl
 | x::r,h=>by
  rw[BM,PyData.canLayAll0,PyData.canLay0,h x (AX ..),Mq λy a=>h y (AL _ a)];rfl
def Mp{K:VA}{H:Hp}:∀ss:A0 Str,PR K H (ss.map PyData.str) (ss.map V.str)
 | []=>by rw[FZ,FZ,PR]
 | x::r=>by
  rw[BM,BM,PR];exact⟨_,_,rfl,by rw[Rp],Mp r⟩
def Dy:∀ss:A0 Str,PyData.depthAll (ss.map PyData.str)<=1
 | []=>by rw[FZ,PyData.depthAll];lia
 | x::r=>by
  rw[BM,PyData.depthAll,PyData.depth];have:=Dy r;lia
def Kx{K:VA}{H:Hp}{a z:A3}{ss:A0 Str}{Q:VK}(b:H a=some (.lst (ss.map V.str)))(c:∀x∈ss,PySem.PyData.strOk x=true)(hz:H z=some (.lst []))(q:Q (.bl ss.isEmpty) H):Yy K (.ref a) (.ref z) H Q :=
 ⟨.list (ss.map PyData.str),.list [],by rw[Rp];exact⟨a,_,rfl,II.of b,Mp ss⟩,by rw[Rp];exact⟨z,_,rfl,II.of hz,by rw[PR]⟩,⟨by rw[PyData.canLay0];exact Mq c,by rw[PyData.depth];have:=Dy ss;lia⟩,⟨rfl,by simp[PyData.depth,PyData.depthAll]⟩,by
  rw[Ty];have:(ss.map PyData.str).isEmpty=ss.isEmpty:=by cases ss<;>rfl
  rw[this];exact q⟩
def zFj(d:Nat)(h:d<4):∃y:Str,PySem.PyData.strOk y=true/\PN [V.str "nobody",.str "",.str "A",.str "zq"] (d:Int)=some (.str y):=by
 match d,h with
 | 0,_=>exact⟨"nobody",by decide +kernel,rfl⟩
 | 1,_=>exact⟨"",by decide +kernel,rfl⟩
 | 2,_=>exact⟨"A",by decide +kernel,rfl⟩
 | 3,_=>exact⟨"zq",by decide +kernel,rfl⟩
theorem Fm:IB ["_law_left_here","_law_own"] ["_law_left_here","_law_own"] (B6 NK):=KL
def Cb:Sp:=λd H Q _=>∃(X:A0 A3) (p o:A3) (c:Int) (e:A0 Str) (ps:A0 IQ),d = [.ref p,.ref o]/\IL H p c/\c<=1000/\p∈X/\JQ X H o e ps /\
 ∀(y:Str) (b:Int) a,PySem.PyData.strOk y=true->b<=c+2->Sm [p] H a->IL a p b->Q (.str y) a
theorem Q1(T:Tx K mg):IM P w K mg base JR 3 T.aw.f T.aw.fd ["_law_left_here","_law_own"] Cb:=by
 refine T.aw.F.o1 Fm λcdv A G s H vs Q E m h=>?_
 .obtain⟨X,p,o,c,I,ps,rfl,hL,c1,J,W,q⟩:=h;have hu:=Q9 m;refine⟨_,(A9 (M0 (PW.pt (Ck (B8 (Og K m.units) (E5 (KQ K) (pv 1) B3 (λ_ _=>rfl)) (E9 A8) (D0 _)) (X5 (B8 U2 (C9 T.af (C2 T) (Rm m) (A6 (pv 0) (A6 B3 A8))) B3 (D0 _))))) (B5 (C1 (E5 (KQ K) (E9 (A6 B9 (A6 B9 (A6 B9 (A6 B9 A8))))) (C9 T.af (C2 T) (Rm m) (A6 (pv 0) (A6 B3 A8))) (λ_ _=>rfl)))) D8)
   (B5 (C1 (E5 (KQ K) (G7 (w4 K) T.av N8 (A6 (E5 (KQ K) (pv 1) B3 (λ_ _=>rfl)) A8)) (C9 T.af (C2 T) (Rm m) (A6 (pv 0) (A6 (G7 (Q2 K) T.as M9 (A6 (E5 (KQ K) (pv 1) B3 (λ_ _=>rfl)) A8)) A8))) (λ_ _=>rfl))))),?_⟩
  obtain⟨⟨a,b,Y,Z,e3,n1,n2,n3⟩,pin,nm,st⟩:=id W;have ok:∀x∈I,PySem.PyData.strOk x=true:=λx hx=>O7 (nm.1 x hx);have ap:a≠p:=λz=>n2 (z▸J);refine B4 λN1 M=>?_;have n:∀(N:Int) (g:Hp),N<=c+1->Sm [p] H g->IL g p N->OS (S1 K) (SY (V9 (tC (V.str "nobody")) (V9 (tC (V.str "")) (V9 (tC (V.str "A")) (V9 (tC (V.str "zq")) Jw))))) (Sh Ry [] E0 (V9 (V2 0) (V9 (tC (V.int 4)) Jw))) [some (.ref p),some (.ref o)] g Q:=λN g hc k L=>by
   refine⟨by show 4<=sizeLine;decide,λz D=>?_⟩;have u:=C3.new (o:=.lst [V.str "nobody",.str "",.str "A",.str "zq"]) D;have L2:=L.same u;have pz:z≠p:=(B0 L.get D).symm;refine Cv rfl (S8 (a:=p) rfl L2 (by lia) (by decide) (by decide) λd H3 hd k3 r=>?_);obtain⟨y,oy,ey⟩:=zFj d (by lia);exact⟨z,_,_,_,rfl,rfl,II.of (Le k3 A7 pz),ey,q y _ H3 oy (by lia) ((k.trans u.sm).trans k3) r⟩
  refine Cv rfl ⟨o,_,0,_,rfl,rfl,II.of Y,rfl,⟨CB _,λz D=>?_⟩⟩;have t:=C3.new (o:=.lst []) D;have f1:(H_ H z (.lst [])) z=some (.lst []):=A7;have O:=hL.same t;generalize H_ H z (.lst [])=g at t f1 O⊢;refine Kx (t _ _ Z) ok f1 ⟨_,rfl,?_⟩;refine Z7 (λ_=>X3 (n c g (by lia) t.sm O)) λne=>?_;refine Cv rfl (S8 (a:=p) rfl O (by lia) (by decide) (by decide) λd R hd k2 L2=>⟨rfl,_,rfl,?_⟩);have e:=t.sm.trans k2;refine Z7 (λ_=>n (c+1) R (by lia) e L2) λ_=>M _ _ ?_;have O2:=W.smp J e;have v:=Le e Y (λz=>n1 (z▸J));have B:=Le e Z ap;refine Cv rfl ⟨o,_,0,_,rfl,rfl,II.of v,rfl,a,I,rfl,II.of B,λl i hl pn srt=>?_⟩;have C:=C3.new (o:=.lst (i.map V.str)) hl;have S:(H_ R l (.lst (i.map V.str))) l=some (.lst (i.map V.str)):=A7;have r:=L2.same C;generalize H_ R l (.lst (i.map V.str))=H3 at C S r⊢;refine Cv rfl (Cv rfl ⟨o,_,0,_,rfl,rfl,II.of (C _ _ v),rfl,a,_,rfl,.inl (II.of (C _ _ B)),?_⟩);rw[AB];have pos:0<I.length:=List.length_pos_iff.mpr λz=>ne (by rw[z];rfl);have le:=nm.2.2;refine S8 (a:=p) rfl r (by lia) (by lia) (by lia) λU H4 hd4 k4 L4=>?_;have ll:=pn.length_eq;have hi:i[U]?=some i[U]:=AF (by lia);exact⟨l,_,_,_,rfl,rfl,II.of (Le k4 S (r.ne S)),O9 (j:=U) (by rw[AH,hi];rfl),q _ _ H4 (ok _ (pn.mem_iff.mp (DD _))) (by lia) ((e.trans C.sm).trans k4) L4⟩
def Js(l:A0 Str):∀a:HW Nat,(List.foldl (λa (p:Str)=>a ++("":Str).cps++p.cps) a l).toList=a.toList++l.flatMap λy=>y.cps.toList:=by
 induction l with
 | nil=>intro a;simp
 | cons y r b =>
  intro a;rw[GA,b,List.flatMap_cons,<-BG];have e:("":Str).cps = #[]:=rfl;rw[e,Array.append_empty,BT]
def Ig(b:A0 Nat):(Txt.join "" (b.map λc=>(⟨#[c]⟩:Str))).cps.toList=b:=by
 unfold Txt.join Builtin.Str.glued;cases b with
 | nil=>rfl
 | cons c r =>
  rw[BM,List.drop_succ_cons,EC];refine(Js _ _).trans ?_;have e:∀r:A0 Nat,((r.map λc=>(⟨#[c]⟩:Str)).flatMap λy=>y.cps.toList)=r:=λr=>by
   induction r with
   | nil=>rfl
   | cons a t d=>rw[BM,List.flatMap_cons,d];rfl
  rw[e];rfl
def Tf{a:A0 Nat}(h:∀c∈a,Es c=true)(h1:1<=a.length)(h2:a.length<=8):N9 (Txt.join "" (a.map λc=>(⟨#[c]⟩:Str)))=true:=by
 have l:(Txt.join "" (a.map λc=>(⟨#[c]⟩:Str))).length=a.length:=by
  unfold Str.length;rw[<-AS,Ig]
 unfold N9;rw[l,Ig,AQ h1,AQ h2,EB.mpr h];rfl
abbrev lets:Str := "abcdefghijklmnopqrstuvwxyz"
def zAf{d:Nat}(h:d<26):∃c,PN lets.cps.toList (d:Int)=some c/\Es c=true:=by
 refine⟨97+d,O9 ?_,?_⟩
 .rw[By,List.getElem?_range' (by lia)];simp
 .unfold Es;rw[AQ (by lia),AQ (by lia)];rfl
theorem LP:IB ["_law_left_here","_law_letters"] ["_law_left_here"] (B6 ME):=KL
def Kf:Sp:=λd H Q _=>∃(p:A3) (c:Int),d = [.ref p]/\IL H p c/\c<=900000/\∀x b a,Sm [p] H a->N9 x=true->b<=c+9->IL a p b->Q (.str x) a
set_option maxHeartbeats 2000000 in
theorem X8(T:Tx K mg):IM P w K mg base JR 3 T.aE.f T.aE.fd ["_law_left_here"] Kf:=by
 refine T.aE.F.o1 LP λJ A k s H Z Q E u h=>?_
 .obtain⟨p,c,rfl,L,c1,q⟩:=h;refine⟨_,(A9 (C6 (i:=1) LP.nd rfl (.inr rfl) B9)
   (B5 (C1 (Ph K PySem.F.plainAttrs_str PySem.F.slot_str_join PySem.F.type_str_join (Yz K) B9 (A6 (V5 (N':=["_law_turn","_law_letters","_law_left_here"]) (cap:=[none,some 1,some 0]) (cl:=[("_law_letters",_),("_law_left_here",_)]) (P0 ⟨⟨rfl,rfl,rfl,rfl⟩,⟨⟨rfl,rfl,rfl,rfl⟩,trivial⟩⟩ ⟨rfl,⟨rfl,trivial⟩⟩) rfl (Zl T.aH (A6 (E8 T6 B3 (C9 T.af (C2 T) (Rm u) (A6 (pv 0) (A6 B3 A8)))) A8)) (λ_ _ _ _=>by exact⟨(LM 0),P9,(E5 Ta (pv 1) (C9 T.af (C2 T) (Rm u) (A6 (pv 2) (A6 B3 A8))) (λ_ _=>rfl))⟩)) A8))))),?_⟩
  refine⟨rfl,?_⟩;refine Cv rfl (S8 (a:=p) rfl L (by lia) (by decide) (by decide) λm M hm O B=>C0 rfl rfl (Cv rfl ⟨by lia,by lia,λD l=>?_⟩));rw[show((1:Int) +(m:Int)).toNat=1+m by lia];have g:p≠D:=B0 B.get l;refine Eg (n:=1+m) (λi σ j=>(∃v,σ = [v,some (.str lets),some (.ref p)])/\Sm [p] M j/\IL j p (c+1+i)/\∃b:A0 Nat,j D=some (.lst ((b.map λc=>(⟨#[c]⟩:Str)).map V.str))/\b.length=i/\∀c∈b,Es c=true) ?_ (λi _ _ C _=>C) (λ_ _ _=>VD _) ?_ ?_
  .exact⟨⟨_,rfl⟩,(C3.new l).sm,(B.cast (by lia)).upd g,[],A7,rfl,λc h=>absurd h (A_)⟩
  .rintro i σ j v H' N C ⟨⟨R,rfl⟩,o,L2,b,r,G,t⟩ ⟨rfl,rfl⟩ S;refine Cj ?_;refine Cv rfl (Cv rfl (S8 (a:=p) rfl L2 (by lia) (by decide) (by decide) λd H3 hd I U=>?_));obtain⟨a,W,X⟩:=zAf (d:=d) (by lia);refine⟨lets,_,a,rfl,rfl,by decide,W,_,Le I r g.symm,?_,S _ _ ⟨⟨_,rfl⟩,(o.trans I).updN l,(U.cast (by lia)).upd g,b ++ [a],?_,?_,?_⟩⟩
   .rw[AB,AB,sizeLine_eq];lia
   .rw[A7,AJ,AJ];rfl
   .rw[AV,G];rfl
   .intro y Y;rcases AO.mp Y with z | z
    .exact t y z
    .rw[AE.mp z];exact X
  .rintro σ j ⟨⟨R,rfl⟩,o,L2,b,r,G,t⟩;refine⟨"",D,_,rfl,rfl,II.of r,?_,q _ _ _ (O.trans o) (Tf t (by lia) (by lia)) (by lia) L2⟩;have e:((b.map λc=>(⟨#[c]⟩:Str)).map λx=>x.length)=b.map λ_=>1:=by rw[BQ];rfl
   rw[e,List.map_const',List.sum_replicate_nat,AB,show("":Str).length=0 from rfl];lia
def signs:Str := " !\"#$&'()*+,-./0123456789:;<=>?@ABCDEFGHIJKLMNOPQRSTUVWXYZ[\\]^_`{|}~"
def Vh:∀c∈signs.cps.toList,PySem.PyData.strOk ⟨#[c]⟩=true:=by decide +kernel
def Wm{d:Nat}(h:d<68):∃a:Nat,PN signs.cps.toList (d:Int)=some a/\PySem.PyData.strOk ⟨#[a]⟩=true:=by
 have b:signs.cps.toList.length=68:=by decide +kernel
 refine⟨signs.cps.toList[d]'(by lia),O9 (AF (by lia)),Vh _ (DD _)⟩
def Hu{a b:Str}(h:PySem.PyData.strOk a=true)(h':PySem.PyData.strOk b=true):PySem.PyData.strOk (a++b)=true:=by
 unfold PySem.PyData.strOk at h h'⊢;show(a.cps++b.cps).all _=true;rw[Array.all_append,h,h'];rfl
def Kt(a b:Str):(a++b).length=a.length+b.length:=by
 show(a.cps++b.cps).size=_;rw[HL];rfl
def zEs:∀d:Nat,d<3->PySem.PyData.strOk (Txt.slice "xa" none (some (d:Int)))=true/\PySem.PyData.strOk (Txt.slice "xa" (some (d:Int)) none)=true
 | 0,_=>by decide +kernel
 | 1,_=>by decide +kernel
 | 2,_=>by decide +kernel
theorem KI:IB ["_law_left_here","_law_text","_law_signs","_law_at"] ["_law_left_here","_law_text"] (B6 MD):=KL
def zFg:Sp:=λb H Q _=>∃(p:A3) (c:Int),b = [.ref p,.str "xa"]/\IL H p c/\c<=900000/\∀x a,Sm [p] H a->PySem.PyData.strOk x=true->x.length<=100->IL a p (c+2)->Q (.str x) a
theorem Cd(T:Tx K mg):IM P w K mg base JR 3 T.aP.f T.aP.fd ["_law_left_here","_law_text"] zFg:=by
 refine T.aP.F.o1 KI λm A k s H G Q E l h=>?_
 .obtain⟨p,c,rfl,n,I,q⟩:=h;refine⟨_,(A9 (C6 (i:=2) KI.nd rfl (.inl rfl) B9)
   (A9 (C6 (i:=3) KI.nd rfl (.inl rfl) (C9 T.af (C2 T) (Rm l) (A6 (pv 0) (A6 (E8 T6 (G7 U0 T.as M9 (A6 (pv 1) A8)) B3) A8))))
   (B5 (C1 (E8 Ab (E8 Ab (T9 slS (pv 1) Y8 (Y2 (pv 3))) (E5 Ta (pv 2) (C9 T.af (C2 T) (Rm l) (A6 (pv 0) (A6 (G7 U0 T.as M9 (A6 (pv 2) A8)) A8))) (λ_ _=>rfl))) (T9 slS (pv 1) (Y2 (pv 3)) Y8)))))),?_⟩
  have g:("xa":Str).length<=sizeLine:=by decide +kernel
  have j:("xa":Str).length=2:=by decide +kernel
  have b:signs.length=68:=by decide +kernel
  refine Cv rfl (Cv rfl ⟨"xa",rfl,g,C0 rfl rfl ?_⟩);refine S8 (a:=p) rfl n (by lia) (by rw[j];decide) (by rw[j];decide) λd J o r t=>?_;obtain⟨u,v⟩:=zEs d (by rw[j]at o;lia);refine Cv rfl (Cv rfl (Cv rfl ⟨"xa",rfl,g,?_⟩));refine Cv rfl (Cv rfl (Cv rfl ⟨signs,rfl,by rw[b,sizeLine_eq];decide,?_⟩));refine S8 (a:=p) rfl t (by lia) (by rw[b];decide) (by rw[b];decide) λe L x y L2=>?_;obtain⟨a,z,B⟩:=Wm (d:=e) (by rw[b]at x;lia);have C:=Txt.slice_le "xa" none (some (d:Int));have D:=Txt.slice_le "xa" (some (d:Int)) none;rw[j]at C D;refine⟨signs,_,a,rfl,rfl,by rw[b,sizeLine_eq];decide,z,?_⟩;have la:(⟨#[a]⟩:Str).length=1:=rfl;refine⟨_,_,rfl,rfl,by rw[la,sizeLine_eq];lia,?_⟩;refine Cv rfl (Cv rfl (Cv rfl ⟨"xa",rfl,g,?_⟩));exact⟨_,_,rfl,rfl,by rw[Kt,la,sizeLine_eq];lia,q _ _ (r.trans y) (Hu (Hu u B) v) (by rw[Kt,Kt,la];lia) (L2.cast (by lia))⟩
inductive JC | pn (y:Str) | tn (y:Str) | ps (a b:Str) | ts (a b:Str)
def JC.strs:JC->A0 Str
 | .pn y=>["put_name",y]
 | .tn y=>["take_name",y]
 | .ps a b=>["put_strike",a,b]
 | .ts a b=>["take_strike",a,b]
def JC.fit(ss:A0 Str)(ps:A0 IQ):JC->Prop
 | .pn y=>ss.length+1<=30/\y.length<=100
 | .ps _ _=>ps.length+1<=140
 | _=>True
structure MM(H:Hp)(t:A3)(d:JC):Prop where
 at_:H t=some (.tup (d.strs.map V.str))
 ok:∀x∈d.strs,PySem.PyData.strOk x=true
def MM.same{H H':Hp}{t:A3}{d:JC}(h:MM H t d)(s:C3 H H'):MM H' t d:=⟨s _ _ h.at_,h.ok⟩
def zGi:PySem.PyData.strOk "put_name" = true/\PySem.PyData.strOk "take_name" = true/\PySem.PyData.strOk "put_strike" = true/\PySem.PyData.strOk "take_strike" = true:=⟨by decide +kernel,by decide +kernel,by decide +kernel,by decide +kernel⟩
theorem zDt(d:Nat)(h:d<6):∃y:Str,PySem.PyData.strOk y=true/\y.length<=100/\PN [V.str "",.str "A",.str "abcdefghi",.str "a b",.str "a1",.str "ab\n"] (d:Int)=some (.str y):=by
 match d,h with
 | 0,_=>exact⟨"",by decide +kernel,by decide +kernel,rfl⟩
 | 1,_=>exact⟨"A",by decide +kernel,by decide +kernel,rfl⟩
 | 2,_=>exact⟨"abcdefghi",by decide +kernel,by decide +kernel,rfl⟩
 | 3,_=>exact⟨"a b",by decide +kernel,by decide +kernel,rfl⟩
 | 4,_=>exact⟨"a1",by decide +kernel,by decide +kernel,rfl⟩
 | 5,_=>exact⟨"ab\n",by decide +kernel,by decide +kernel,rfl⟩
def QO:A0 Str:=["b","ab","x","know","c","m","ba","aba","xa","ca","ma","bbb","pq","abcdefgh","p","pp"]
theorem Ld:∀x∈QO,PySem.PyData.strOk x=true/\x.length<=100:=by decide +kernel
theorem Ik:∀ps:A0 IQ,PyData.depthAll (ps.map λq=>pd q.2)<=2
 | []=>by rw[FZ,PyData.depthAll];lia
 | x::r=>by
  rw[BM,PyData.depthAll];have:=Ik r;have:(pd x.2).depth<=2:=by simp[pd,PyData.depth,PyData.depthAll]
  lia
theorem Zu{K:VA}{H:Hp}{b z:A3}{ps:A0 IQ}{Q:VK}(c:H b=some (.lst (G0 ps)))(a:∀q∈ps,G9 H q)(d:∀q∈ps,PySem.PyData.strOk q.2.1=true/\PySem.PyData.strOk q.2.2=true)(hz:H z=some (.lst []))(q:Q (.bl (!ps.isEmpty)) H):TL K (.ref b) (.ref z) H Q :=
 ⟨_,.list [],En c a,by rw[Rp];exact⟨z,_,rfl,II.of hz,by rw[PR]⟩,⟨by rw[PyData.canLay0];exact Fz d,by rw[PyData.depth];have:=Ik ps;lia⟩,⟨rfl,by simp[PyData.depth,PyData.depthAll]⟩,by
  rw[Ty];have:(ps.map λq=>pd q.2).isEmpty=ps.isEmpty:=by cases ps<;>rfl
  rw[this];exact q⟩
theorem Uv{H:Hp}{p o a b:A3}{d:Int}{v3 l:A5 V}{ss:A0 Str}{g:Bool->Hp->Prop}(m:H o=some (.lst [.ref a,.ref b]))(n:H a=some (.lst (ss.map V.str)))(s:∀x∈ss,PySem.PyData.strOk x=true)
  (h:∀c H',C3 H H'->(c=true->ss.length+1<=30)->g c H') :
  tOr (zHz (j7 (OS (RA λi j=>V.bl (decide (i<j))) (V2 2) (tC (V.int 2)))) (j7 (OS (RA λi j=>V.bl (decide (i<j))) (SF (λxs H Q=>∃p k,xs = [V.ref p]/\(II K H p k\/IV K H p k)/\Q (V.int (k.length:Int)) H) (V9 (OS (S1 K) (V2 1) (tC (V.int 0))) Jw)) (tC (V.int 30)))))
   (j7 (OS (Yy K) (OS (S1 K) (V2 1) (tC (V.int 0))) (SY Jw))) [some (.ref p),some (.ref o),some (.int d),v3,l] H g:=by
 have f:j7 (OS (Yy K) (OS (S1 K) (V2 1) (tC (V.int 0))) (SY Jw)) [some (.ref p),some (.ref o),some (.int d),v3,l] H g:=by
  refine Cv rfl ⟨o,_,0,_,rfl,rfl,II.of m,rfl,⟨CB _,λz t=>?_⟩⟩;have q:=C3.new (o:=.lst []) t;refine Kx (q _ _ n) s A7 ⟨_,rfl,h _ _ q λc=>?_⟩;cases ss with
  | nil=>show 0+1<=30;lia
  | cons x r=>cases c
 refine Cv rfl (C0 rfl rfl ⟨_,rfl,Z7 (λ_=>?_) λ_=>P1 f⟩);refine Cv rfl ⟨o,_,0,_,rfl,rfl,II.of m,rfl,a,_,rfl,.inl (II.of n),C0 rfl rfl ⟨_,rfl,Z7 (λc=>h _ _ (λb o e=>e) λ_=>?_) λ_=>f⟩⟩;rw[AB]at c;have:=BL c;lia
theorem zBy{α0 α1:Type}{c d e f:α0->α1->Prop}{a:α0}{b:α1}(g:c a b)(h1:d a b)(h2:e a b)(h:f a b):∃a b,c a b/\d a b/\e a b/\f a b:=⟨a,b,g,h1,h2,h⟩
theorem K3:IB ["_law_left_here","_law_own","_law_way","_law_some","_law_others"] ["_law_left_here","_law_own"] (B6 OM):=KL
def Zh:Sp:=λf H Q _=>∃(X:A0 A3) (p o:A3) (c:Int) (b:A0 Str) (ps:A0 IQ),f = [.ref p,.ref o]/\IL H p c/\c<=900/\p∈X/\JQ X H o b ps/\ps.length<=200 /\
 ∀(t:A3) (d:JC) (e:Int) a,H t=none->e<=c+30->Sm [p] H a->IL a p e->MM a t d->d.fit b ps->Q (.ref t) a
set_option maxHeartbeats 1000000 in
theorem Kp(T:Tx K mg):IM P w K mg base JR 4 T.a8.f T.a8.fd ["_law_left_here","_law_own"] Zh:=by
 refine T.a8.F.o1 K3 λcdv A outer s H vs Q E m h=>?_
 .obtain⟨X,p,o,c,ss,ps,rfl,hL,c1,D,hO,PK,q⟩:=h;have hu:=Q9 m;refine⟨_,(A9 (C6 (i:=2) K3.nd rfl (.inl rfl) (C9 T.af (C2 T) (Rm m) (A6 (pv 0) (A6 B3 A8))))
   (@A9 _ _ _ _ _ (@M0 _ _ _ _ _ _ _ _ (PW.pt (Ck (PW.pt (Cf (B8 Nm (pv 2) B3 (D0 _)) (j4 (B8 Nm (G7 (Q2 K) T.as M9 (A6 (E5 (KQ K) (pv 1) B3 (λ_ _=>rfl)) A8)) B3 (D0 _))))) (X5 (B8 (Og K m.units) (E5 (KQ K) (pv 1) B3 (λ_ _=>rfl)) (E9 A8) (D0 _))))) (@A9 _ _ _ _ _ (@C6 _ _ 3 _ _ _ _ K3.nd rfl (.inl rfl) (@E9 _ _ _ _ (@A6 _ _ _ _ _ B9 (@A6 _ _ _ _ _ B9 (@A6 _ _ _ _ _ B9 (@A6 _ _ _ _ _ B9 (@A6 _ _ _ _ _ B9 (@A6 _ _ _ _ _ B9 (@A6 _ _ _ _ _ B9 (@A6 _ _ _ _ _ B9 (@A6 _ _ _ _ _ B9 (@A6 _ _ _ _ _ B9 (@A6 _ _ _ _ _ B9 (@A6 _ _ _ _ _ B9 (@A6 _ _ _ _ _ B9 (@A6 _ _ _ _ _ B9 (@A6 _ _ _ _ _ B9 (@A6 _ _ _ _ _ B9 A8 (by rfl)) (by rfl)) (by rfl)) (by rfl)) (by rfl)) (by rfl)) (by rfl)) (by rfl)) (by rfl)) (by rfl)) (by rfl)) (by rfl)) (by rfl)) (by rfl)) (by rfl)) (by rfl))) (by rfl) (by first | exact .inl rfl | exact .inr rfl | assumption))
   (@A9 _ _ _ _ _ (@M0 _ _ _ _ _ _ _ _ (B8 U2 (C9 T.af (C2 T) (Rm m) (A6 (pv 0) (A6 B3 A8))) B3 (D0 _)) (@B5 _ _ _ (@C1 _ _ _ _ (@J3 _ _ _ _ _ (@A6 _ _ _ _ _ B9 (@A6 _ _ _ _ _ (@E5 _ _ _ _ _ _ _ (KQ K) (@E9 _ _ _ _ (@A6 _ _ _ _ _ B9 (@A6 _ _ _ _ _ B9 (@A6 _ _ _ _ _ B9 (@A6 _ _ _ _ _ B9 (@A6 _ _ _ _ _ B9 (@A6 _ _ _ _ _ B9 A8 (by rfl)) (by rfl)) (by rfl)) (by rfl)) (by rfl)) (by rfl))) (C9 T.af (C2 T) (Rm m) (A6 (pv 0) (A6 B3 A8))) (λ_ _=>rfl)) A8 (by rfl)) (by rfl))))) D8)
   (A9 (M0 (B8 U2 (C9 T.af (C2 T) (Rm m) (A6 (pv 0) (A6 B3 A8))) B3 (D0 _)) (A9 (C6 (i:=4) K3.nd rfl (.inl rfl) (E9 (A6 (C9 T.aE (X8 T) (Rm m) (A6 (pv 0) A8)) (A6 (C9 T.aE (X8 T) (Rm m) (A6 (pv 0) A8)) (A6 (C9 T.aP (Cd T) (Rm m) (A6 (pv 0) (A6 B9 A8))) A8)))))
   (B5 (C1 (J3 (A6 B9 (A6 (E5 (KQ K) (pv 4) (C9 T.af (C2 T) (Rm m) (A6 (pv 0) (A6 B3 A8))) (λ_ _=>rfl)) A8)))))) D8)
   (B5 (C1 (J3 (A6 B9 (A6 (E5 (KQ K) (pv 3) (C9 T.af (C2 T) (Rm m) (A6 (pv 0) (A6 B3 A8))) (λ_ _=>rfl)) A8)))))))) D8)
   (A9 (M0 (B8 Nm (pv 2) B3 (D0 _)) (B5 (C1 (J3 (A6 B9 (A6 (C9 T.aw (Q1 T) (Rm m) (A6 (pv 0) (A6 (pv 1) A8))) A8))))) D8)
   (A9 (M0 (PW.pt (Cf (B8 Nm (pv 2) B3 (D0 _)) (j4 (B8 Nm (G7 (Q2 K) T.as M9 (A6 (E5 (KQ K) (pv 1) B3 (λ_ _=>rfl)) A8)) B3 (D0 _))))) (B5 (C1 (J3 (A6 B9 (A6 (C9 T.aw (Q1 T) (Rm m) (A6 (pv 0) (A6 (pv 1) A8))) (A6 (C9 T.aw (Q1 T) (Rm m) (A6 (pv 0) (A6 (pv 1) A8))) A8)))))) D8)
   (A9 (M0 (PW.pt (Cf (B8 (Xg K m.units) (E5 (KQ K) (pv 1) B3 (λ_ _=>rfl)) (E9 A8) (D0 _)) (j4 (B8 zAg (C9 T.af (C2 T) (Rm m) (A6 (pv 0) (A6 B3 A8))) B3 (D0 _))))) (B5 (C1 (E8 (Zi K) (J3 (A6 B9 A8)) (E5 (KQ K) (G7 (Ft K) T.av N8 (A6 (E5 (KQ K) (pv 1) B3 (λ_ _=>rfl)) A8)) (C9 T.af (C2 T) (Rm m) (A6 (pv 0) (A6 (G7 (Q2 K) T.as M9 (A6 (E5 (KQ K) (pv 1) B3 (λ_ _=>rfl)) A8)) A8))) (λ_ _=>rfl))))) D8)
   (B5 (C1 (J3 (A6 B9 (A6 (C9 T.aw (Q1 T) (Rm m) (A6 (pv 0) (A6 (pv 1) A8))) (A6 (C9 T.aw (Q1 T) (Rm m) (A6 (pv 0) (A6 (pv 1) A8))) A8))))))))))),?_⟩
  obtain⟨⟨a,b,e1,e2,e3,n1,n2,n3⟩,pin,nm,st⟩:=id hO;have ok:∀x∈ss,PySem.PyData.strOk x=true:=λx hx=>O7 (nm.1 x hx);have ap:a≠p:=λz=>n2 (z▸D);have fresh:∀(t:A3) (G:Hp) (u:Int),Sm [p] H G->IL G p u->G t=none->H t=none:=λt G u k L r=>by
   cases e:H t with
   | none=>rfl
   | some x =>
    have tp:t≠p:=λz=>by rw[z,L.get]at r;cases r
    exact absurd (k _ _ e (by simpa using tp)) (by rw[r];intro z;cases z)
  have v:∀(d:JC) (u:Int) (G:Hp),u<=c+30->Sm [p] H G->IL G p u->(∀x∈d.strs,PySem.PyData.strOk x=true)->d.fit ss ps->∀t,G t=none->Q (.ref t) (H_ G t (.tup (d.strs.map V.str))):=λd u G hc k L od fd t r =>
   q t d u _ (fresh t G u k L r) hc (k.trans (C3.new r).sm) (L.same (C3.new r)) ⟨A7,od⟩ fd
  obtain⟨ko1,ko2,ko3,ko4⟩:=zGi;refine B4 λN1 hN1=>?_;refine Cv rfl (S8 (a:=p) (b:=c) rfl hL (by lia) (by decide) (by decide) λway G hw k1 L1=>?_);refine hN1 _ _ (B4 λN2 hN2=>?_);have e1a:=Le k1 e1 (λz=>n1 (z▸D));have e2a:=Le k1 e2 ap;refine Uv e1a e2a ok λbb H2 s2 hbb=>?_;have k2:=k1.trans s2.sm;have L2:=L1.same s2;refine Z7 (λhb=>?_) λ_=>hN2 _ _ ?_
  .have fit:=hbb hb;refine⟨by show 16<=sizeLine;decide,λz hz=>?_⟩;have J:=C3.new (o:=.lst [V.str "b",.str "ab",.str "x",.str "know",.str "c",.str "m",.str "ba",.str "aba",.str "xa",.str "ca",.str "ma",.str "bbb",.str "pq",.str "abcdefgh",.str "p",.str "pp"]) hz;have f3:(H_ H2 z (.lst [V.str "b",.str "ab",.str "x",.str "know",.str "c",.str "m",.str "ba",.str "aba",.str "xa",.str "ca",.str "ma",.str "bbb",.str "pq",.str "abcdefgh",.str "p",.str "pp"])) z=some (.lst (QO.map V.str)):=A7;have M:=L2.same J;have U:=k2.trans J.sm;generalize H_ H2 z (.lst [V.str "b",.str "ab",.str "x",.str "know",.str "c",.str "m",.str "ba",.str "aba",.str "xa",.str "ca",.str "ma",.str "bbb",.str "pq",.str "abcdefgh",.str "p",.str "pp"])=N at J f3 M U⊢;refine Cv rfl (S8 (a:=p) rfl M (by lia) (by decide) (by decide) λd4 H4 hd4 O W=>⟨rfl,_,rfl,?_⟩);have B:=U.trans O;refine Z7 (λ_=>?_) λ_=>?_
   .refine⟨by show 6<=sizeLine;decide,λz2 C=>?_⟩;have I:=C3.new (o:=.lst [V.str "",.str "A",.str "abcdefghi",.str "a b",.str "a1",.str "ab\n"]) C;have R:=W.same I;have pz:z2≠p:=(B0 W.get C).symm;refine Cv rfl (S8 (a:=p) rfl R (by lia) (by decide) (by decide) λd6 H6 hd6 Y Z=>?_);obtain⟨y,oy,ly,ey⟩:=zDt d6 (by lia);refine⟨z2,_,_,_,rfl,rfl,II.of (Le Y A7 pz),ey,⟨by show 2<=sizeLine;decide,λt r=>?_⟩⟩;exact v (.pn y) _ H6 (by lia) ((B.trans I.sm).trans Y) Z (λx hx=>by
     rcases AU.mp hx with rfl | hx
     .exact ko1
     .rw[AE.mp hx];exact oy) ⟨fit,ly⟩ t r
   .refine B4 λN5 S=>S _ _ (B4 λN6 hN6=>?_);have zp:z≠p:=M.ne f3;refine Cv rfl (S8 (a:=p) rfl W (by lia) (by decide) (by decide) λd5 H5 hd5 k5 R=>⟨rfl,_,rfl,?_⟩);have k35:=B.trans k5;refine Z7 (λ_=>B4 λN7 hN7=>?_) λ_=>hN6 _ _ ?_
    .refine Cv rfl (zBy (a:=p) rfl R (by lia) λy1 c1 H7 k7 n1 l1 L7=>?_);refine Cv rfl (zBy (a:=p) rfl L7 (by lia) λy2 c2 H8 k8 n2 l2 L8=>?_);refine Cv rfl ⟨p,c2,rfl,L8,by lia,λy3 H9 k9 o3 l3 L9=>?_⟩;refine⟨by show 3<=sizeLine;decide,λz2 C=>hN7 _ _ ?_⟩;have pz:z2≠p:=(B0 L9.get C).symm;have L10:=L9.same (C3.new (o:=.lst [.str y1,.str y2,.str y3]) C);have k39:=(((k35.trans k7).trans k8).trans k9).trans (C3.new (o:=.lst [.str y1,.str y2,.str y3]) C).sm;refine Cv rfl (Cv rfl (S8 (a:=p) rfl L10 (by lia) (by decide) (by decide) λd10 H10 hd10 k10 L11=>?_));obtain⟨y,oy,ly,ey⟩:∃y:Str,PySem.PyData.strOk y=true/\y.length<=100/\PN [V.str y1,.str y2,.str y3] (d10:Int)=some (.str y):=by
      have le:∀{y:Str},N9 y=true->y.length<=100:=fun{y} h=>by
       unfold N9 at h;rw[CS,CS]at h;have:=BL h.1.2;lia
      match d10,hd10 with
      | 0,_=>exact⟨y1,O7 n1,le n1,rfl⟩
      | 1,_=>exact⟨y2,O7 n2,le n2,rfl⟩
      | 2,_=>exact⟨y3,o3,l3,rfl⟩
      | n+3,h=>lia
     refine⟨z2,_,_,_,rfl,rfl,II.of (Le k10 A7 pz),ey,⟨by show 2<=sizeLine;decide,λt r=>?_⟩⟩;exact v (.pn y) _ H10 (by lia) (k39.trans k10) L11 (λx hx=>by
      rcases AU.mp hx with rfl | hx
      .exact ko1
      .rw[AE.mp hx];exact oy) ⟨fit,ly⟩ t r
    refine Cv rfl (Cv rfl (S8 (a:=p) rfl R (by lia) (by decide) (by decide) λd6 H6 hd6 Y Z=>?_));have hi:QO[d6]?=some (QO[d6]'(by show d6<16;lia)):=AF _;refine⟨z,_,_,_,rfl,rfl,II.of (Le Y (Le k5 (Le O f3 zp) zp) zp),O9 (j:=d6) (by rw[AH,hi];rfl),⟨by show 2<=sizeLine;decide,λt r=>?_⟩⟩;exact v (.pn _) _ H6 (by lia) (k35.trans Y) Z (λx hx=>by
     rcases AU.mp hx with rfl | hx
     .exact ko1
     .rw[AE.mp hx];exact(Ld _ (DD _)).1) ⟨fit,(Ld _ (DD _)).2⟩ t r
  .have O2:=hO.smp D k2;have e1b:=s2 _ _ e1a;have bp:b≠p:=λz=>n3 (z▸D);have e3b:=Le k2 e3 bp;have pin2:∀q∈ps,G9 H2 q:=λq hq=>(O2.pin q hq).1;have okp:∀q∈ps,PySem.PyData.strOk q.2.1=true/\PySem.PyData.strOk q.2.2=true:=λq hq=>⟨ok _ (st.nm q hq).1,ok _ (st.nm q hq).2⟩;have two:∀(mk:Str->Str->JC) (kd:Str) (u:Int) (N:Hp),(∀y z,(mk y z).strs = [kd,y,z])->PySem.PyData.strOk kd=true->(∀y z,(mk y z).fit ss ps)->u<=c+4->Sm [p] H N->IL N p u ->
     zFo (V9 (tC (V.str kd)) (V9 (Sh Cb [] E0 (V9 (V2 0) (V9 (V2 1) Jw))) (V9 (Sh Cb [] E0 (V9 (V2 0) (V9 (V2 1) Jw))) Jw))) [some (.ref p),some (.ref o),some (.int (way:Int)),none,none] N Q:=λmk kd u N hs okd hf hc k L=>by
    refine Cv rfl (Cv rfl ⟨X,p,o,u,ss,ps,rfl,L,by lia,D,hO.smp D k,λy c4 H4 oy hc4 O W=>?_⟩);refine Cv rfl (Cv rfl ⟨X,p,o,c4,ss,ps,rfl,W,by lia,D,hO.smp D (k.trans O),λz c5 H5 oz hc5 k5 R=>?_⟩);refine⟨by show 3<=sizeLine;decide,λt r=>?_⟩;have:=v (mk y z) c5 H5 (by lia) ((k.trans O).trans k5) R (λx hx=>by
     rw[hs]at hx;rcases AU.mp hx with rfl | hx
     .exact okd
     .rcases AU.mp hx with rfl | hx
      .exact oy
      .rw[AE.mp hx];exact oz) (hf y z) t r
    rw[hs]at this;exact this
   refine B4 λN3 hN3=>?_;refine Cv rfl (C0 rfl rfl ⟨_,rfl,Z7 (λ_=>?_) λ_=>hN3 _ _ ?_⟩)
   .refine Cv rfl (Cv rfl ⟨X,p,o,_,ss,ps,rfl,L2,by lia,D,O2,λy c3 N oy hc3 U M=>⟨by show 2<=sizeLine;decide,λt r=>?_⟩⟩);exact v (.tn y) c3 N (by lia) (k2.trans U) M (λx hx=>by
     rcases AU.mp hx with rfl | hx
     .exact ko2
     .rw[AE.mp hx];exact oy) VC t r
   .refine B4 λN4 hN4=>?_;have tail:N4 [some (.ref p),some (.ref o),some (.int (way:Int)),none,none] H2:=by
     refine hN4 _ _ (B4 λN5 S=>?_);refine Cv rfl ⟨o,_,1,_,rfl,rfl,II.of e1b,rfl,⟨CB _,λz hz=>?_⟩⟩;have J:=C3.new (o:=.lst []) hz;have f3:(H_ H2 z (.lst [])) z=some (.lst []):=A7;have M:=L2.same J;have U:=k2.trans J.sm;have pin3:=G6 J pin2;have e1c:=J _ _ e1b;have e3c:=J _ _ e3b;generalize H_ H2 z (.lst [])=N at J f3 M U pin3 e1c e3c⊢;refine Zu e3c pin3 okp f3 ⟨_,rfl,?_⟩;refine Z7 (λne=>?_) λ_=>P1 (S _ _ (two JC.ts _ _ N (λ_ _=>rfl) ko4 (λ_ _=>VC) (by lia) U M));refine Cv rfl (S8 (a:=p) rfl M (by lia) (by decide) (by decide) λd4 H4 hd4 O W=>C0 rfl rfl ⟨_,rfl,?_⟩);have B:=U.trans O;refine Z7 (λ_=>?_) λ_=>S _ _ (two JC.ts _ _ H4 (λ_ _=>rfl) ko4 (λ_ _=>VC) (by lia) B W);have O4:=hO.smp D B;have e1d:=Le O e1c (λz=>n1 (z▸D));have e3d:=Le O e3c bp;refine⟨by show 1<=sizeLine;decide,λt1 ht1=>?_⟩;have I:=C3.new (o:=.tup [.str "take_strike"]) ht1;have f5:(H_ H4 t1 (.tup [.str "take_strike"])) t1=some (.tup [.str "take_strike"]):=A7;have R:=W.same I;have O5:=O4.same I;have k5:=B.trans I.sm;generalize H_ H4 t1 (.tup [.str "take_strike"])=H5 at I f5 R O5 k5⊢;refine Cv rfl ⟨o,_,1,_,rfl,rfl,II.of (I _ _ e1d),rfl,b,ps,rfl,II.of (I _ _ e3d),λq hq=>(O5.pin q hq).1,λl g hl pm _=>?_⟩;have u6:=C3.new (o:=.lst (g.map λq=>V.ref q.1)) hl;have f6:(H_ H5 l (.lst (g.map λq=>V.ref q.1))) l=some (.lst (G0 g)):=A7;have Z:=R.same u6;have O6:=O5.same u6;have Y:=k5.trans u6.sm;have f5:=u6 _ _ f5;have e1e:=u6 _ _ (I _ _ e1d);have e3e:=u6 _ _ (I _ _ e3d);generalize H_ H5 l (.lst (g.map λq=>V.ref q.1))=H6 at f6 Z O6 Y f5 e1e e3e⊢;refine Cv rfl (Cv rfl ⟨o,_,1,_,rfl,rfl,II.of e1e,rfl,b,_,rfl,.inl (II.of e3e),?_⟩);have rl:(G0 ps).length=ps.length:=by unfold G0;rw[AB]
     rw[rl];have pos:0<ps.length:=List.length_pos_iff.mpr λz=>by rw[z]at ne;cases ne
     refine S8 (a:=p) rfl Z (by lia) (by lia) (by lia) λd7 H7 hd7 k7 L7=>?_;have ll:=pm.length_eq;have hi:g[d7]?=some g[d7]:=AF (by lia);have hm:g[d7]∈ps:=pm.mem_iff.mp (DD _);have lp:l≠p:=Z.neP f6;have e7:=((O6.smp D k7).pin _ hm).1;have t1p:t1≠p:=λz=>by
      obtain⟨xa,xb,em,_⟩:=id Z;rw[z,em]at f5;cases f5
     refine⟨l,_,_,_,rfl,rfl,II.of (Le k7 f6 lp),O9 (j:=d7) (by unfold G0;rw[AH,hi];rfl),?_⟩;refine⟨t1,g[d7].1,_,_,rfl,rfl,IV.of (Le k7 f5 t1p),IV.of e7,(λz=>by cases z),by show 3<=sizeLine;decide,(λz=>by cases z),λ_ t r=>?_⟩;exact v (.ts g[d7].2.1 g[d7].2.2) _ H7 (by lia) (Y.trans k7) L7 (λx hx=>by
      rcases AU.mp hx with rfl | hx
      .exact ko4
      .rcases AU.mp hx with rfl | hx
       .exact(okp _ hm).1
       .rw[AE.mp hx];exact(okp _ hm).2) VC t r
    refine Cv rfl (C0 rfl rfl ⟨_,rfl,Z7 (λ_=>?_) λ_=>P1 tail⟩);refine Cv rfl ⟨o,_,1,_,rfl,rfl,II.of e1b,rfl,b,_,rfl,.inl (II.of e3b),C0 rfl rfl ⟨_,rfl,Z7 (λfew=>?_) λ_=>tail⟩⟩;have rl:(G0 ps).length=ps.length:=by unfold G0;rw[AB]
    rw[rl]at few;have:=BL few;exact two JC.ps _ _ H2 (λ_ _=>rfl) ko3 (λ_ _=>by show ps.length+1<=140;lia) (by lia) k2 L2
def Yu(x:Str):A0 Str:=(x.cps.toList.filter λc=>!Es c).map λc=>⟨#[c]⟩
def Vp(x:Str):(Yu x).isEmpty=x.cps.toList.all Es:=by
 unfold Yu;generalize x.cps.toList=l
 induction l with
 | nil=>rfl
 | cons c r a =>
  rw[BO,List.all_cons];cases h:Es c with
  | true=>rw[AI (by decide),a,HV]
  | false=>rw[AN (by decide),DP];rfl
def zDv{x:Str}(h:PySem.PyData.strOk x=true):∀y∈Yu x,PySem.PyData.strOk y=true:=λy b=>by
 unfold Yu at b;obtain⟨c,a,rfl⟩:=BK.mp b;have a:=(AY.mp a).1;unfold PySem.PyData.strOk at h⊢;rw[Array.all_eq_true']at h;have:=h c (by rw[<-Array.mem_toList_iff];exact a);simpa using this
theorem L0:IB ["_law_word","_law_letters"] ["_law_word"] (B6 MU):=KL
def Pd:Sp:=λb H Q _=>∃x:Str,b = [.str x]/\PySem.PyData.strOk x=true/\x.length<=100/\∀a,C3 H a->Q (.bl (N9 x)) a
theorem Cw(T:Tx K mg):IM P w K mg base JR 1 T.aT.f T.aT.fd ["_law_word"] Pd:=by
 refine T.aT.F.o1 L0 λJ A j s H W Q E p h=>?_
 .obtain⟨x,rfl,L,X,q⟩:=h;have Y:=Q9 p;refine⟨_,(A9 (C6 (i:=1) L0.nd rfl (.inr rfl) B9)
   (B5 (C1 (Bn (Xf Ux Ux B3 (G7 U0 T.as M9 (A6 (pv 0) A8)) B3) (Eb (R8 (Og K p.units) (V5 (N':=["_law_sign","_law_letters"]) (cap:=[none,some 1]) (cl:=[("_law_letters",_)]) (P0 ⟨⟨rfl,rfl,rfl,rfl⟩,trivial⟩ ⟨rfl,trivial⟩) rfl (Yi (pv 0)) (λ_ _ _ _=>by exact⟨(LM 0),(K8 (B8 Hf (pv 0) (pv 1) rfl)),(pv 0)⟩)) (E9 A8) (D0 _))))))),?_⟩
  refine B4 λZ k=>?_;have l:x.length<=sizeLine:=by rw[sizeLine_eq];lia
  have r:x.cps.size=x.length:=rfl;refine k _ _ ?_;refine Cv rfl ⟨x,rfl,l,C0 rfl rfl (Cv rfl ?_)⟩;refine Z7 (λa=>?_) (λa=>?_)
  .have a:(1:Int)<=(x.length:Int):=BL a;refine C0 rfl rfl ⟨_,rfl,?_⟩;by_cases t:(x.length:Int)<=8
   .rw[AQ t];refine X3 ?_;refine Cv rfl ⟨x,rfl,λD u=>?_⟩;refine Eg (n:=x.cps.size) (λi σ m=>(∃v,σ = [v,some (.str "abcdefghijklmnopqrstuvwxyz")])/\C3 H m/\m D=some (.lst (((x.cps.toList.take i).filter λc=>!Es c).map λc=>V.str ⟨#[c]⟩))) ⟨⟨_,rfl⟩,C3.new u,A7⟩ (λi _ _ y _=>y) (λ_ _ _=>rfl) ?_ ?_
    .rintro i σ B v m N y ⟨⟨v0,rfl⟩,d,g⟩ ⟨rfl,c,M,rfl⟩ C;have O:x.cps.toList[i]?=some c:=by rw[BJ];exact M
     have G:((x.cps.toList.take (i+1)).filter λc=>!Es c) =((x.cps.toList.take i).filter λc=>!Es c)++if(!Es c)=true then [c]else []:=by
      rw[E3 O,CM,BO,DQ]
     have R:=BC (λc=>!Es c) (x.cps.toList.take i);rw[AZ]at R;refine Cv rfl (Cv rfl ⟨_,_,rfl,rfl,_,rfl,?_⟩);rw[PySem.StrLaws.found_one,Qc];refine Z7 (λb=>Cv rfl ⟨_,g,by rw[AB,sizeLine_eq];lia,C _ _ ⟨⟨_,rfl⟩,d.upd u,?_⟩⟩) (λb=>C _ _ ⟨⟨_,rfl⟩,d,?_⟩)
     .rw[A7,G,AN b,AJ];rfl
     .rw[G,AI b,BW];exact g
    .rintro σ B ⟨_,d,g⟩;have S:B D=some (.lst ((Yu x).map V.str)):=by
      rw[g,<-AS,BS];unfold Yu;rw[BQ];rfl
     refine⟨CB _,λz U=>?_⟩;have I:=C3.new (o:=.lst []) U;refine Kx (I _ _ S) (zDv L) A7 ?_;have e:(Yu x).isEmpty=N9 x:=by
      unfold N9;rw[Vp,AQ (show 1<=x.length by lia),AQ (show x.length<=8 by lia)];rfl
     rw[e];exact q _ (d.trans I)
   .rw[AM t];refine P1 ?_;have e:N9 x=false:=by
     unfold N9;rw[AM (show ¬x.length<=8 by lia),HJ,DP]
    have:=q H (C3.refl H);rw[e]at this;exact this
  .have a:¬(1:Int)<=(x.length:Int):=λz=>a (AQ z);refine⟨_,rfl,P1 ?_⟩;have e:N9 x=false:=by
    unfold N9;rw[AM (show ¬1<=x.length by lia),DP,DP]
   have:=q H (C3.refl H);rw[e]at this;exact this
def JC.can(ss:A0 Str)(ps:A0 IQ):JC->Prop
 | .pn y=>N9 y=true/\y∉ss
 | .tn y=>y∈ss
 | .ps a b=>a∈ss/\b∈ss/\(a,b)∉ps.map λq=>q.2
 | .ts a b=>a∈ss/\b∈ss/\(a,b)∈ps.map λq=>q.2
def Wa{K:VA}{H:Hp}{a z:A3}{ss:A0 Str}{Q:VK}(c:H a=some (.lst (ss.map V.str)))(f:∀x∈ss,PySem.PyData.strOk x=true)(hz:H z=some (.lst []))(q:Q (.bl (!ss.isEmpty)) H):TL K (.ref a) (.ref z) H Q:=by
 obtain⟨d,e,g,h,i,j,b⟩:=Kx (K:=K) (Q:=λv k=>v = .bl ss.isEmpty) c f hz rfl;refine⟨d,e,g,h,i,j,?_⟩;have b:PyData.eqv d e=ss.isEmpty:=(V.bl.inj b);rw[b];exact q
def Om{J:It}{a D:A3}{ts:A0 Str}{r:St}{j:TT}{H:Hp}{Q:St->Hp->Prop}(p:Str->Bool)(as:NQ J (ts.map V.str) a H)(u:ts.length<=1000)(k:H D=none)
  (w:∀y∈ts,∀g,C3 H g->∀l:Bool->Hp->Prop,(∀e,C3 g e->l (p y) e)->j (some (.str y)::r) g l) (h:∀σ e,C3 H e->e D=some (.lst ((ts.filter p).map V.str))->Q σ e) (m:A5 V) :
  Ax (P2 0) j (g7 D (V2 0)) J (m::r) (H_ H D (.lst [])) Q:=by
 refine P8 as (λi σ f=>(∃v,σ=v::r)/\C3 H f/\f D=some (.lst (((ts.take i).filter p).map V.str)))
  ⟨⟨_,rfl⟩,C3.new k,A7⟩ (λi σ g _ ⟨_,x,_⟩=>x.at a) ?_ ?_
 .rintro i σ f v N n ⟨⟨m,rfl⟩,b,d⟩ o;rw[AH]at n;obtain⟨y,q,rfl⟩:=BF.mp n;refine w y (BB q) f b _ λz s=>?_;have d:=s _ _ d;have b:=b.trans s;have t:(ts.take (i+1)).filter p =(ts.take i).filter p++if p y=true then [y]else []:=by
   rw[E3 q,CM,BO,DQ]
  have A:(((ts.take i).filter p).map V.str).length<=1000:=by
   rw[AB];have:=BC p (ts.take i);rw[AZ]at this;lia
  refine Z7 (λc=>Cv rfl ⟨_,d,by rw[sizeLine_eq];lia,o _ _ ⟨⟨_,rfl⟩,b.upd k,?_⟩⟩) (λc=>o _ _ ⟨⟨_,rfl⟩,b,?_⟩)
  .rw[A7,t,AN c,AJ];rfl
  .rw[t,AI c,BW];exact d
 .rintro σ f ⟨_,b,d⟩;rw[AB,BS]at d;exact h σ f b d
def zBc{K:VA}{H:Hp}{t l:A3}{k:Str×Str}{ps:A0 IQ}{Q:VK}(b:H t=some (.tup [.str k.1,.str k.2]))(c:H l=some (.lst (G0 ps)))(d:∀q∈ps,G9 H q)
  (a:PySem.PyData.strOk k.1=true/\PySem.PyData.strOk k.2=true) (e:∀q∈ps,PySem.PyData.strOk q.2.1=true/\PySem.PyData.strOk q.2.2=true) (q:Q (.bl (decide (k∈ps.map λq=>q.2))) H):SX K false (.ref t) (.ref l) H Q :=
 ⟨pd k,_,n9 b,.inl (En c d),⟨Cl a.1 a.2,by simp[pd,PyData.depth,PyData.depthAll]⟩,Fz e,by rw[AI (by decide),Bv];exact q⟩
def zCr(x y:Str)(ss:A0 Str):([x,y].filter λn=>!decide (n∈ss)).isEmpty=decide (x∈ss/\y∈ss):=by
 by_cases c:x∈ss
 .by_cases d:y∈ss
  .rw[BO,AQ c,BO,AQ d,AQ ⟨c,d⟩];rfl
  .rw[BO,AQ c,BO,AM d,AM λz=>d z.2];rfl
 .rw[BO,AM c,AM λz=>c z.1];rfl
def Eo{K:VA}{H:Hp}{o t a b:A3}{kd:Str}{tl ss:A0 Str}{q:A5 V}{l:Bool->Hp->Prop}(r:H t=some (.tup ((kd::tl).map V.str)))(c:Hm ((kd::tl).map V.str) (some 1) none=tl.map V.str)
  (f:¬(HT.JP ((kd::tl).map V.str).length 0 (some 1)=0/\HT.JP ((kd::tl).map V.str).length ((kd::tl).map V.str).length none =((kd::tl).map V.str).length)) (s:H a=some (.lst (ss.map V.str))) (u:∀x∈tl,PySem.PyData.strOk x=true) (E:tl.length<=10)
  (h:∀H',C3 H H'->l (!(tl.filter λn=>!decide (n∈ss)).isEmpty) H') :
  j7 (OS (TL K) (Ji (zFs K (tSl (zFl K) (V2 1) (zCt (tC (V.int 1))) Ts)) (λ_=>HO.lst []) [none,some 2] λD J σ H Q=>Ax (P2 0) (j7 (OS (SJ K true) (V2 0) (V2 1))) (g7 D (V2 0)) J σ H Q) (SY Jw)) [some (.ref o),some (.ref t),some (.ref a),some (.ref b),q] H l:=by
 refine Cv rfl ⟨1,rfl,t,_,rfl,IV.of r,f,λd g=>?_⟩;rw[c];have i:=C3.new (o:=.tup (tl.map V.str)) g;have j:(H_ H d (.tup (tl.map V.str))) d=some (.tup (tl.map V.str)):=A7;generalize H_ H d (.tup (tl.map V.str))=F at i j⊢;refine⟨d,rfl,⟨_,IV.of j⟩,λD v=>?_⟩;refine Om (λn=>!decide (n∈ss)) (asT (K:=K) (IV.of j)) (by lia) v (λy G m k I w=>?_) (λσ m k A=>?_) _
 .exact Cv rfl (Cv rfl (U6 (.inl (II.of (k _ _ (i _ _ s)))) ⟨_,rfl,w m λb o e=>e⟩))
 .refine⟨CB _,λz B=>?_⟩;have p:=C3.new (o:=.lst []) B;exact Wa (p _ _ A) (λx C=>u x (AY.mp C).1) A7 ⟨_,rfl,h _ ((i.trans k).trans p)⟩
theorem JT:IB ["_law_own","_law_deed_here","_law_names","_law_strikes","_law_word"] ["_law_own","_law_deed_here"] (B6 MC):=KL
def zAr:Sp:=λc H Q _=>∃(X:A0 A3) (o t:A3) (b:A0 Str) (ps:A0 IQ) (d:JC),c = [.ref o,.ref t]/\JQ X H o b ps/\MM H t d/\d.fit b ps/\(∀a,C3 H a->d.can b ps->Q .non a)/\∀r a,C3 H a->Q (.ref r) a
set_option maxHeartbeats 1000000 in
theorem Cs(T:Tx K mg):IM P w K mg base JR 3 T.aQ.f T.aQ.fd ["_law_own","_law_deed_here"] zAr:=by
 refine T.aQ.F.o1 JT λcdv A outer s H vs Q E j h=>?_
 .obtain⟨X,o,t,G,ps,d,rfl,hO,hD,hf,Z,M⟩:=h;have hu:=Q9 j;refine⟨_,(A9 (Cr (pv 0) (pgL K (n:=2) (E7 (J0 (i:=2) JT.nd rfl (.inr rfl)) (E7 (J0 (i:=3) JT.nd rfl (.inl rfl)) R0))))
   (A9 (C6 (i:=4) JT.nd rfl (.inl rfl) (E5 (OW K) (pv 1) B3 (λ_ _=>rfl)))
   (A9 (M0 (B8 U2 (pv 4) B9 (D0 _)) (B5 (C1 (Fx (PW.pt (Ck (V0 (Q6 (C9 T.aT (Cw T) (Rm j) (A6 (E5 (OW K) (pv 1) B3 (λ_ _=>rfl)) A8)))) (X5 (B8 (Od K) (E5 (OW K) (pv 1) B3 (λ_ _=>rfl)) (pv 2) rfl)))) (J3 (A6 B9 (A6 B3 A8))) i6))) D8)
   (A9 (M0 (B8 (Xg K j.units) (V5 (N':=["_law_name","_law_names"]) (cap:=[none,some 2]) (cl:=[("_law_names",_)]) (P0 ⟨⟨rfl,rfl,rfl,rfl⟩,trivial⟩ ⟨rfl,trivial⟩) rfl (piT K (T9 (TQ K) (pv 1) (Y2 B3) Y8)) (λ_ _ _ _=>by exact⟨(LM 0),(K8 (B8 (w9 K) (pv 0) (pv 1) rfl)),(pv 0)⟩)) (E9 A8) (D0 _)) (B5 (C1 (J3 (A6 B9 (A6 i6 A8))))) D8)
   (A9 (M0 (PW.pt (Cf (B8 U2 (pv 4) B9 (D0 _)) (j4 (B8 (zGh K j.units) (T9 (TQ K) (pv 1) (Y2 B3) Y8) (pv 3) rfl)))) (B5 (C1 (J3 (A6 B9 (A6 B3 A8))))) D8)
   (A9 (M0 (PW.pt (Cf (B8 U2 (pv 4) B9 (D0 _)) (j4 (B8 (Mh K j.units) (T9 (TQ K) (pv 1) (Y2 B3) Y8) (pv 3) rfl)))) (B5 (C1 (J3 (A6 B9 (A6 i6 A8))))) D8)
   (B5 (C1 i6)))))))),?_⟩
  obtain⟨⟨a,b,e1,e2,e3,n1,n2,n3⟩,S,nm,st⟩:=id hO;obtain⟨v,l⟩:=id hD;have ok:∀x∈G,PySem.PyData.strOk x=true:=λx N=>O7 (nm.1 x N);refine B4 λN1 hN1=>?_;refine⟨_,rfl,o,_,rfl,II.of e1,rfl,_,Cv rfl (C0 rfl rfl (hN1 _ _ (B4 λN2 I=>?_)))⟩;have g:∀{x y:Str},x≠y->decide (V.str x=V.str y)=false:=λh=>AM λz=>h (V.str.inj z);cases d with
  | pn y =>
   obtain⟨hf1,hf2⟩:=hf;refine Cv rfl ⟨t,_,0,_,rfl,rfl,IV.of v,rfl,I _ _ (B4 λN3 u=>?_)⟩;refine Cv rfl ⟨rfl,_,rfl,X3 ?_⟩;refine Cv rfl ⟨t,_,1,_,rfl,rfl,IV.of v,rfl,y,rfl,l y (AL _ (AX ..)),hf2,λU p=>⟨_,rfl,?_⟩⟩;cases hb:N9 y with
   | false=>exact X3 (X3 ⟨by show 2<=sizeLine;decide,λr j=>M r _ (p.trans (C3.new j))⟩)
   | true =>
    refine P1 (Cv rfl ⟨t,_,1,_,rfl,rfl,IV.of (p _ _ v),rfl,Cv rfl (V6 (.inl (II.of (p _ _ e2))) ⟨_,rfl,?_⟩)⟩);by_cases c:y∈G
    .rw[AQ c];exact X3 ⟨by show 2<=sizeLine;decide,λr j=>M r _ (p.trans (C3.new j))⟩
    .rw[AM c];exact P1 (Z _ p ⟨hb,c⟩)
  | tn y =>
   refine Cv rfl ⟨t,_,0,_,rfl,rfl,IV.of v,rfl,I _ _ (B4 λN3 u=>?_)⟩;refine Cv rfl ⟨rfl,_,rfl,?_⟩;rw[g (by decide +kernel)];refine P1 (u _ _ (B4 λN4 B=>?_));refine Eo (tl:=[y]) v rfl (by show ¬(HT.JP 2 0 (some 1)=0/\HT.JP 2 2 none=2);decide) e2 (λx N=>l x (AL _ N)) (by show 1<=10;decide) λU p=>?_;by_cases c:y∈G
   .have e:([y].filter λn=>!decide (n∈G)) = []:=by rw[BO,AQ c];rfl
    rw[e];refine P1 (B _ _ (B4 λN5 C=>?_));refine Cv rfl ⟨rfl,_,rfl,?_⟩;rw[g (by decide +kernel)];refine P1 (P1 (C _ _ (B4 λN6 D=>?_)));refine Cv rfl ⟨rfl,_,rfl,?_⟩;rw[g (by decide +kernel)];exact P1 (P1 (D _ _ (Z _ p c)))
   .have e:([y].filter λn=>!decide (n∈G)) = [y]:=by rw[BO,AM c];rfl
    rw[e];exact X3 ⟨by show 2<=sizeLine;decide,λr j=>M r _ (p.trans (C3.new j))⟩
  | ps x y =>
   have W:¬(HT.JP 3 0 (some 1)=0/\HT.JP 3 3 none=3):=by decide
   have ox:PySem.PyData.strOk x=true/\PySem.PyData.strOk y=true:=⟨l x (AL _ (AX ..)),l y (AL _ (AL _ (AX ..)))⟩;have O:∀q∈ps,PySem.PyData.strOk q.2.1=true/\PySem.PyData.strOk q.2.2=true:=λq J=>⟨ok _ (st.nm q J).1,ok _ (st.nm q J).2⟩;refine Cv rfl ⟨t,_,0,_,rfl,rfl,IV.of v,rfl,I _ _ (B4 λN3 u=>?_)⟩;refine Cv rfl ⟨rfl,_,rfl,?_⟩;rw[g (by decide +kernel)];refine P1 (u _ _ (B4 λN4 B=>?_));refine Eo (tl:=[x,y]) v rfl W e2 (λx N=>l x (AL _ N)) (by show 2<=10;decide) λU p=>?_;rw[zCr];by_cases c:x∈G/\y∈G
   .rw[AQ c];refine P1 (B _ _ (B4 λN5 C=>?_));refine Cv rfl ⟨rfl,_,rfl,?_⟩;refine X3 (Cv rfl ⟨1,rfl,t,_,rfl,IV.of (p _ _ v),W,λY R=>Cv rfl ?_⟩);have u2:=C3.new (o:=.tup [.str x,.str y]) R;have f2:(H_ U Y (.tup [.str x,.str y])) Y=some (.tup [.str x,.str y]):=A7;have L:=p.trans u2;refine zBc (k:=(x,y)) f2 (L _ _ e3) (λq J=>L _ _ (S q J).1) ox O ⟨_,rfl,?_⟩;by_cases m:(x,y)∈ps.map λq=>q.2
    .rw[AQ m];exact X3 ⟨by show 2<=sizeLine;decide,λr j=>M r _ (L.trans (C3.new j))⟩
    .rw[AM m];refine P1 (C _ _ (B4 λN6 D=>?_));refine Cv rfl ⟨rfl,_,rfl,?_⟩;rw[g (by decide +kernel)];exact P1 (P1 (D _ _ (Z _ L ⟨c.1,c.2,m⟩)))
   .rw[AM c];exact X3 ⟨by show 2<=sizeLine;decide,λr j=>M r _ (p.trans (C3.new j))⟩
  | ts x y =>
   have W:¬(HT.JP 3 0 (some 1)=0/\HT.JP 3 3 none=3):=by decide
   have ox:PySem.PyData.strOk x=true/\PySem.PyData.strOk y=true:=⟨l x (AL _ (AX ..)),l y (AL _ (AL _ (AX ..)))⟩;have O:∀q∈ps,PySem.PyData.strOk q.2.1=true/\PySem.PyData.strOk q.2.2=true:=λq J=>⟨ok _ (st.nm q J).1,ok _ (st.nm q J).2⟩;refine Cv rfl ⟨t,_,0,_,rfl,rfl,IV.of v,rfl,I _ _ (B4 λN3 u=>?_)⟩;refine Cv rfl ⟨rfl,_,rfl,?_⟩;rw[g (by decide +kernel)];refine P1 (u _ _ (B4 λN4 B=>?_));refine Eo (tl:=[x,y]) v rfl W e2 (λx N=>l x (AL _ N)) (by show 2<=10;decide) λU p=>?_;rw[zCr];by_cases c:x∈G/\y∈G
   .rw[AQ c];refine P1 (B _ _ (B4 λN5 C=>?_));refine Cv rfl ⟨rfl,_,rfl,?_⟩;rw[g (by decide +kernel)];refine P1 (P1 (C _ _ (B4 λN6 D=>?_)));refine Cv rfl ⟨rfl,_,rfl,?_⟩;refine X3 (Cv rfl ⟨1,rfl,t,_,rfl,IV.of (p _ _ v),W,λY R=>Cv rfl ?_⟩);have u2:=C3.new (o:=.tup [.str x,.str y]) R;have f2:(H_ U Y (.tup [.str x,.str y])) Y=some (.tup [.str x,.str y]):=A7;have L:=p.trans u2;refine Ef (k:=(x,y)) f2 (L _ _ e3) (λq J=>L _ _ (S q J).1) ox O ⟨_,rfl,?_⟩;by_cases m:(x,y)∈ps.map λq=>q.2
    .rw[AQ m];exact P1 (D _ _ (Z _ L ⟨c.1,c.2,m⟩))
    .rw[AM m];exact X3 ⟨by show 2<=sizeLine;decide,λr j=>M r _ (L.trans (C3.new j))⟩
   .rw[AM c];exact X3 ⟨by show 2<=sizeLine;decide,λr j=>M r _ (p.trans (C3.new j))⟩
def JC.names(ss:A0 Str):JC->A0 Str
 | .pn y=>ss ++ [y]
 | .tn y=>ss.filter λn=>!decide (n=y)
 | _=>ss
def JC.prs(c:A0 (Str×Str)):JC->A0 (Str×Str)
 | .pn _=>c
 | .tn y=>c.filter λq=>!decide (y=q.1\/y=q.2)
 | .ps a b=>c ++ [(a,b)]
 | .ts a b=>c.filter λq=>!decide (q =(a,b))
def zAp{K:VA}{a D:A3}{k:A0 IQ}{r:St}{m:TT}{n:TE}{H:Hp}{Q:St->Hp->Prop}(p:IQ->Bool)(e:H a=some (.lst (G0 k)))(z:k.length<=1000)(o:H D=none)
  (A:∀y∈k,∀b,C3 H b->∀g:Bool->Hp->Prop,g (p y) b->m (some (.ref y.1)::r) b g) (B:∀y∈k,∀b,C3 H b->∀g:VK,g (.str y.2.2) b->n (some (.ref y.1)::r) b g) (h:∀σ q,C3 H q->Q σ q) (s:A5 V) :
  Ax (P2 0) m (g7 D n) (QF K a) (s::r) (H_ H D (.lst [])) Q:=by
 refine P8 (PP (K:=K) (II.of e)) (λi σ d=>(∃v,σ=v::r)/\C3 H d/\∃j:A0 V,d D=some (.lst j)/\j.length<=i)
  ⟨⟨_,rfl⟩,C3.new o,[],A7,VD _⟩ (λi σ b _ ⟨_,C,_⟩=>C.at a) ?_ ?_
 .rintro i σ d v N l ⟨⟨s,rfl⟩,f,j,t,E⟩ u;unfold G0 at l;rw[AH]at l;obtain⟨y,w,rfl⟩:=BF.mp l;have F:=(AK.mp w).1;have x:=BB w;refine A y x d f _ (Z7 (λc=>B y x d f _ ⟨j,t,by rw[sizeLine_eq];lia,u _ _ ⟨⟨_,rfl⟩,f.upd o,_,A7,by rw[AV];exact E_ E⟩⟩) (λc=>u _ _ ⟨⟨_,rfl⟩,f,j,t,by lia⟩))
 .rintro σ d ⟨_,f,_⟩;exact h σ d f
theorem JF:IB ["_law_own","_law_deed_here","_law_names","_law_strikes","_law_word","_law_name","_law_spread"] ["_law_own","_law_deed_here"] (B6 MV):=KL
def Oy:Sp:=λg H Q _=>∃(X:A0 A3) (o t:A3) (c:A0 Str) (ps:A0 IQ) (d:JC),g = [.ref o,.ref t]/\(∀z∈X,H z≠none)/\JQ X H o c ps/\MM H t d/\d.fit c ps/\d.can c ps/\ps.length<=199 /\
 ∀r f h a b e,C3 H e->H r=none->e r=some (.tup [.ref f,.ref h])->JQ X e f a b->a=d.names c->(b.map λq=>q.2)=d.prs (ps.map λq=>q.2)->Q (.ref r) e
set_option maxHeartbeats 1000000 in
theorem Dg(T:Tx K mg):IM P w K mg base JR 1 T.aU.f T.aU.fd ["_law_own","_law_deed_here"] Oy:=by
 refine T.aU.F.o1 JF λcdv A outer s H vs Q E hr h=>?_
 .obtain⟨X,o,t,ss,ps,d,rfl,hX,hO,hD,hf,hc,lp,q⟩:=h;have hu:=Q9 hr;refine⟨_,(A9 (Cr (pv 0) (pgL K (n:=2) (E7 (J0 (i:=2) JF.nd rfl (.inl rfl)) (E7 (J0 (i:=3) JF.nd rfl (.inl rfl)) R0))))
   (A9 (Cr (T9 (zIa K) (pv 1) Y8 (Y2 B3)) (RC K (n:=2) (E7 (J0 (i:=4) JF.nd rfl (.inl rfl)) (E7 (J0 (i:=5) JF.nd rfl (.inr rfl)) R0))))
   (A9 (M0 (B8 U2 (pv 4) B9 (D0 _)) (B5 (C1 (J3 (A6 (E9 (A6 (E8 Dr (pv 2) (E9 (A6 (pv 5) A8))) (A6 (Ag (X7 K) T.az S9 (A6 (pv 3) A8)) A8))) (A6 (E9 (A6 (pv 5) A8)) A8))))) D8)
   (A9 (M0 (B8 U2 (pv 4) B9 (D0 _)) (A9 (W9 (i:=6) (N':=["_law_pair","_law_name"]) (cap:=[none,some 5]) (cl:=[("_law_name",_)]) JF.nd rfl (.inl rfl) (P0 ⟨⟨rfl,rfl,rfl,rfl⟩,trivial⟩ ⟨rfl,trivial⟩) rfl (NB K (pv 3)) (λ_ _ _ _=>by exact⟨(LM 0),(K8 (PW.pt (Cf (B8 U2 (E5 (OW K) (pv 0) B3 (λ_ _=>rfl)) (pv 1) (D0 _)) (j4 (B8 Db (E5 (OW K) (pv 0) B3 (λ_ _=>rfl)) (pv 1) (D0 _)))))),(E5 (OW K) (pv 0) B3 (λ_ _=>rfl))⟩))
   (B5 (C1 (J3 (A6 (E9 (A6 (V5 (N':=["_law_one","_law_name"]) (cap:=[none,some 5]) (cl:=[("_law_name",_)]) (P0 ⟨⟨rfl,rfl,rfl,rfl⟩,trivial⟩ ⟨rfl,trivial⟩) rfl (NB K (pv 2)) (λ_ _ _ _=>by exact⟨(LM 0),(K8 (B8 Db (pv 0) (pv 1) (D0 _))),(pv 0)⟩)) (A6 (V5 (N':=["_law_pair","_law_name"]) (cap:=[none,some 5]) (cl:=[("_law_name",_)]) (P0 ⟨⟨rfl,rfl,rfl,rfl⟩,trivial⟩ ⟨rfl,trivial⟩) rfl (NB K (pv 3)) (λ_ _ _ _=>by exact⟨(LM 0),(K8 (B8 (w9 K) (pv 1) (pv 0) rfl)),(pv 0)⟩)) A8))) (A6 (pv 6) A8)))))) D8)
   (A9 (M0 (B8 U2 (pv 4) B9 (D0 _)) (B5 (C1 (J3 (A6 (E9 (A6 (Ag (X7 K) T.az S9 (A6 (pv 2) A8)) (A6 (E8 Dr (pv 3) (E9 (A6 (T9 (TQ K) (pv 1) (Y2 B3) Y8) A8))) A8))) (A6 (E9 (A6 (E5 (OW K) (pv 1) B3 (λ_ _=>rfl)) A8)) A8))))) D8)
   (B5 (C1 (J3 (A6 (E9 (A6 (Ag (X7 K) T.az S9 (A6 (pv 2) A8)) (A6 (V5 (N':=["_law_pair","_law_deed_here"]) (cap:=[none,some 1]) (cl:=[("_law_deed_here",_)]) (P0 ⟨⟨rfl,rfl,rfl,rfl⟩,trivial⟩ ⟨rfl,trivial⟩) rfl (NB K (pv 3)) (λ_ _ _ _=>by exact⟨(LM 0),(K8 (B8 (Xg K hr.units) (pv 0) (T9 (TQ K) (pv 1) (Y2 B3) Y8) (D0 _))),(pv 0)⟩)) A8))) (A6 (E9 (A6 (E5 (OW K) (pv 1) B3 (λ_ _=>rfl)) A8)) A8)))))))))),?_⟩
  obtain⟨⟨a,b,e1,e2,e3,n1,n2,n3⟩,k,nm,st⟩:=id hO;obtain⟨et,okd⟩:=id hD;have ok:∀x∈ss,PySem.PyData.strOk x=true:=λx hx=>O7 (nm.1 x hx);have N:∀z,H z=none->z∉X:=λz Z hx=>hX z hx Z;have fin:∀(l x y sa:A3) (S:A0 Str) (U:A0 IQ) (O:Hp),C3 H O->O l=some (.lst [.ref x,.ref y])->O x=some (.lst (S.map V.str))->O y=some (.lst (G0 U))->H l=none->H x=none->H y=none ->
    (∀q∈U,G9 O q/\q.1∉X)->X6 S->NT S U->S=d.names ss->(U.map λq=>q.2)=d.prs (ps.map λq=>q.2)->∀r,O r=none->Q (.ref r) (H_ O r (.tup [.ref l,.ref sa])) :=
   λl x y sa S U O s el ex ey l0 x0 y0 pn nm2 st2 hn hp r hr=>by
    have u:=C3.new (o:=.tup [.ref l,.ref sa]) hr;exact q r l sa S U _ (s.trans u) (s.free hr) A7 ⟨⟨x,y,u _ _ el,u _ _ ex,u _ _ ey,N l l0,N x x0,N y y0⟩,λq m=>⟨u _ _ (pn q m).1,(pn q m).2⟩,nm2,st2⟩ hn hp
  refine B4 λN1 hN1=>?_;refine⟨_,rfl,o,_,rfl,II.of e1,rfl,_,Cv rfl (C0 rfl rfl (hN1 _ _ (B4 λN2 hN2=>?_)))⟩;have g:∀{x y:Str},x≠y->decide (V.str x=V.str y)=false:=λh=>AM λz=>h (V.str.inj z);cases d with
  | pn y =>
   obtain⟨hc1,hc2⟩:=hc;refine Cv rfl ⟨2,rfl,.inr ⟨t,_,rfl,IV.of et,by show HT.JP 2 0 none=0/\HT.JP 2 2 (some 2)=2;decide,?_⟩⟩;refine⟨t,_,rfl,IV.of et,rfl,_,Cv rfl (C0 rfl rfl (hN2 _ _ (B4 λN3 W=>?_)))⟩;refine Cv rfl ⟨rfl,_,rfl,X3 ?_⟩;refine Cv rfl (Cv rfl ⟨by show 1<=sizeLine;decide,λl1 hl1=>?_⟩);have u1:=C3.new (o:=.lst [V.str y]) hl1;have f1:(H_ H l1 (.lst [V.str y])) l1=some (.lst [V.str y]):=A7;generalize H_ H l1 (.lst [V.str y])=O at u1 f1⊢;refine⟨a,l1,_,_,rfl,rfl,u1 _ _ e2,f1,by rw[AB,sizeLine_eq];show ss.length+1<=_;have:=hf.1;lia,λj D=>?_⟩;have u2:=C3.new (o:=.lst (ss.map V.str ++ [V.str y])) D;have Y:(H_ O j (.lst (ss.map V.str ++ [V.str y]))) j=some (.lst ((ss ++ [y]).map V.str)):=by rw[A7,AJ];rfl
   generalize H_ O j (.lst (ss.map V.str ++ [V.str y]))=H2 at u2 Y⊢;have G:=u1.trans u2;refine Cv rfl ⟨b,_,rfl,.inl (II.of (G _ _ e3)),λI hl3=>?_⟩;have u3:=C3.new (o:=.lst (G0 ps)) hl3;have f3:(H_ H2 I (.lst (G0 ps))) I=some (.lst (G0 ps)):=A7;have Y:=u3 _ _ Y;generalize H_ H2 I (.lst (G0 ps))=L at u3 Y f3⊢;have M:=G.trans u3;refine⟨by show 2<=sizeLine;decide,λC p=>?_⟩;have B:=C3.new (o:=.lst [.ref j,.ref I]) p;have R:(H_ L C (.lst [.ref j,.ref I])) C=some (.lst [.ref j,.ref I]):=A7;generalize H_ L C (.lst [.ref j,.ref I])=H4 at B R⊢;have s4:=M.trans B;refine Cv rfl ⟨by show 1<=sizeLine;decide,λl5 hl5=>?_⟩;have u5:=C3.new (o:=.lst [V.str y]) hl5;have u45:=B.trans u5;have s5:=s4.trans u5;refine⟨by show 2<=sizeLine;decide,fin C j I l5 (ss ++ [y]) ps _ s5 (u5 _ _ R) (u45 _ _ Y) (u45 _ _ f3) (M.free p) (u1.free D) (G.free hl3) (λq m=>⟨s5 _ _ (k q m).1,(k q m).2⟩) ⟨λn hn=>(AO.mp hn).elim (nm.1 n) λc=>by rw[AE.mp c];exact hc1,CI.mpr ⟨nm.2.1,CL.mpr ⟨A_,D_⟩,λc hc d hd e=>hc2 (by rw[<-AE.mp hd,<-e];exact hc)⟩,by rw[AV];have:=hf.1;show ss.length+1<=100;lia⟩ ⟨λq m=>⟨AO.mpr (.inl (st.nm q m).1),AO.mpr (.inl (st.nm q m).2)⟩,st.nd,st.len⟩ rfl rfl⟩
  | tn y =>
   have v:∀z:Str,decide (V.str z=V.str y)=decide (z=y):=λz=>EL.mpr ⟨λe=>V.str.inj e,λe=>congrArg V.str e⟩;refine Cv rfl ⟨2,rfl,.inr ⟨t,_,rfl,IV.of et,by show HT.JP 2 0 none=0/\HT.JP 2 2 (some 2)=2;decide,?_⟩⟩;refine⟨t,_,rfl,IV.of et,rfl,_,Cv rfl (C0 rfl rfl (hN2 _ _ (B4 λN3 W=>?_)))⟩;refine Cv rfl ⟨rfl,_,rfl,?_⟩;rw[g (by decide +kernel)];refine P1 (W _ _ (B4 λN4 hN4=>?_));refine Cv rfl ⟨rfl,_,rfl,X3 (B4 λN5 hN5=>?_)⟩;have PK:ps.length<=1000:=by lia
   refine Cv rfl ⟨b,rfl,⟨_,II.of e3⟩,λD1 hD1=>?_⟩;refine zAp (λq=>decide (q.2.1=y)&&!decide (q.2.2=y)) e3 PK hD1 (λz Z O s1 Q' hQ=>?_) (λz Z O s1 Q' hQ=>?_) (λσ O s1=>?_) _
   .have ez:=s1 _ _ (k z Z).1;refine Cv rfl ⟨z.1,_,0,_,rfl,rfl,IV.of ez,rfl,Cv rfl ⟨rfl,_,rfl,?_⟩⟩;rw[v];by_cases c:z.2.1=y
    .rw[AQ c];refine X3 (Cv rfl ⟨z.1,_,1,_,rfl,rfl,IV.of ez,rfl,Cv rfl ⟨rfl,_,rfl,?_⟩⟩);rw[v];rw[AQ c,HV]at hQ;exact hQ
    .rw[AM c];rw[AM c,DP]at hQ;exact P1 hQ
   .exact Cv rfl ⟨z.1,_,1,_,rfl,rfl,IV.of (s1 _ _ (k z Z).1),rfl,hQ⟩
   refine hN5 _ _ ?_;refine Cv rfl ⟨a,rfl,⟨_,II.of (s1 _ _ e2)⟩,λD2 hD2=>?_⟩;refine U9 (λn=>!decide (n=y)) (s1 _ _ e2) (by have:=nm.2.2;lia) hD2 (λz Z H2 G Q' hQ=>?_) (λσ H2 G Y=>?_) _
   .refine Cv rfl (Cv rfl ⟨rfl,_,rfl,?_⟩);rw[v];exact hQ H2 λb o e=>e
   have s12:=s1.trans G;refine Cv rfl ⟨b,rfl,⟨_,II.of (s12 _ _ e3)⟩,λD3 hD3=>?_⟩;refine Me (λq=>!decide (y=q.2.1\/y=q.2.2)) (s12 _ _ e3) PK hD3 (λz Z L M Q' hQ=>?_) (λσ L M f3=>?_) _
   .have ez:=M _ _ (s12 _ _ (k z Z).1);refine Cv rfl (Cv rfl (U6 (ss:=[z.2.1,z.2.2]) (.inr (IV.of ez)) ⟨_,rfl,?_⟩));have:(!decide (y∈[z.2.1,z.2.2]))=!decide (y=z.2.1\/y=z.2.2):=congrArg Bool.not (EL.mpr (by rw[AU,AE]));rw[this];exact hQ L λb o e=>e
   have s13:=s12.trans M;refine⟨by show 2<=sizeLine;decide,λC p=>?_⟩;have B:=C3.new (o:=.lst [.ref D2,.ref D3]) p;have R:(H_ L C (.lst [.ref D2,.ref D3])) C=some (.lst [.ref D2,.ref D3]):=A7;generalize H_ L C (.lst [.ref D2,.ref D3])=H4 at B R⊢;have s14:=s13.trans B;refine Cv rfl ⟨by show 2<=sizeLine;decide,fin C D2 D3 D1 _ _ H4 s14 R (B _ _ (M _ _ Y)) (B _ _ f3) (s13.free p) (s1.free hD2) (s12.free hD3) (λq m=>⟨s14 _ _ (k q (AY.mp m).1).1,(k q (AY.mp m).1).2⟩) ⟨λn hn=>nm.1 n (AY.mp hn).1,nm.2.1.filter _,VE (BC ..) nm.2.2⟩ ⟨λq m=>?_,st.nd.sublist (DW.map _),VE (BC ..) st.len⟩ rfl (by show _=List.filter (λq:Str×Str=>!decide (y=q.1\/y=q.2)) (ps.map λq=>q.2);rw[GG];rfl)⟩;obtain⟨q1,q2⟩:=AY.mp m;have q3:¬(y=q.2.1\/y=q.2.2):=by simpa using q2
   exact⟨AY.mpr ⟨(st.nm q q1).1,by rw[AM λe=>q3 (.inl e.symm)];rfl⟩,AY.mpr ⟨(st.nm q q1).2,by rw[AM λe=>q3 (.inr e.symm)];rfl⟩⟩
  | ps x y =>
   obtain⟨hx,hy,hxy⟩:=hc;refine Cv rfl ⟨2,rfl,.inl ⟨t,_,rfl,IV.of et,by show ¬(HT.JP 3 0 none=0/\HT.JP 3 3 (some 2)=3);decide,λT1 hT1=>?_⟩⟩;have u0:=C3.new (o:=.tup (Hm ((JC.ps x y).strs.map V.str) none (some 2))) hT1;have f0:(H_ H T1 (.tup (Hm ((JC.ps x y).strs.map V.str) none (some 2)))) T1=some (.tup [.str "put_strike",.str x]):=A7;generalize H_ H T1 (.tup (Hm ((JC.ps x y).strs.map V.str) none (some 2)))=H0 at u0 f0⊢;refine⟨T1,_,rfl,IV.of f0,rfl,_,Cv rfl (C0 rfl rfl (hN2 _ _ (B4 λN3 W=>?_)))⟩;refine Cv rfl ⟨rfl,_,rfl,?_⟩;rw[g (by decide +kernel)];refine P1 (W _ _ (B4 λN4 hN4=>?_));refine Cv rfl ⟨rfl,_,rfl,?_⟩;rw[g (by decide +kernel)];refine P1 (hN4 _ _ (B4 λN5 hN5=>?_));refine Cv rfl ⟨rfl,_,rfl,X3 ?_⟩;refine Cv rfl ⟨a,_,rfl,.inl (II.of (u0 _ _ e2)),λj D=>?_⟩;have u2:=C3.new (o:=.lst (ss.map V.str)) D;have Y:(H_ H0 j (.lst (ss.map V.str))) j=some (.lst (ss.map V.str)):=A7;generalize H_ H0 j (.lst (ss.map V.str))=H2 at u2 Y⊢;have G:=u0.trans u2;refine Cv rfl (Cv rfl ⟨1,rfl,t,_,rfl,IV.of (G _ _ et),by show ¬(HT.JP 3 0 (some 1)=0/\HT.JP 3 3 none=3);decide,λJ hT2=>⟨by show 1<=sizeLine;decide,λl1 hl1=>?_⟩⟩);have u3:=C3.new (o:=.tup (Hm ((JC.ps x y).strs.map V.str) (some 1) none)) hT2;have f3:(H_ H2 J (.tup (Hm ((JC.ps x y).strs.map V.str) (some 1) none))) J=some (.tup [.str x,.str y]):=A7;generalize H_ H2 J (.tup (Hm ((JC.ps x y).strs.map V.str) (some 1) none))=L at u3 f3 hl1⊢;have B:=C3.new (o:=.lst [.ref J]) hl1;have R:(H_ L l1 (.lst [.ref J])) l1=some (.lst [.ref J]):=A7;generalize H_ L l1 (.lst [.ref J])=H4 at B R⊢;have M:=G.trans u3;have s4:=M.trans B;refine⟨b,l1,_,_,rfl,rfl,s4 _ _ e3,R,by unfold G0;rw[AB,sizeLine_eq];show ps.length+1<=_;lia,λI hl3=>?_⟩;have u5:=C3.new (o:=.lst (G0 ps ++ [V.ref J])) hl3;have f5:(H_ H4 I (.lst (G0 ps ++ [V.ref J]))) I=some (.lst (G0 (ps ++ [(J,x,y)]))):=by rw[A7];unfold G0;rw[AJ];rfl
   generalize H_ H4 I (.lst (G0 ps ++ [V.ref J]))=H5 at u5 f5⊢;have s5:=s4.trans u5;refine⟨by show 2<=sizeLine;decide,λC p=>?_⟩;have u6:=C3.new (o:=.lst [.ref j,.ref I]) p;have f6:(H_ H5 C (.lst [.ref j,.ref I])) C=some (.lst [.ref j,.ref I]):=A7;generalize H_ H5 C (.lst [.ref j,.ref I])=H6 at u6 f6⊢;have s6:=s5.trans u6;refine Cv rfl ⟨t,_,2,_,rfl,rfl,IV.of (s6 _ _ et),rfl,⟨by show 1<=sizeLine;decide,λl5 hl5=>?_⟩⟩;have u7:=C3.new (o:=.lst [V.str y]) hl5;have s7:=s6.trans u7;have u27:=(((u3.trans B).trans u5).trans u6).trans u7;have u37:=((B.trans u5).trans u6).trans u7;refine⟨by show 2<=sizeLine;decide,fin C j I l5 ss (ps ++ [(J,x,y)]) _ s7 (u7 _ _ f6) (u27 _ _ Y) ((u6.trans u7) _ _ f5) (s5.free p) (u0.free D) (s4.free hl3) (λq m=>?_) nm ⟨λq m=>?_,?_,by rw[AV];show ps.length+1<=200;lia⟩ rfl (by rw[AJ];rfl)⟩
   .rcases AO.mp m with c | c
    .exact⟨s7 _ _ (k q c).1,(k q c).2⟩
    .rw[AE.mp c];exact⟨u37 _ _ f3,N J (G.free hT2)⟩
   .rcases AO.mp m with c | c
    .exact st.nm q c
    .rw[AE.mp c];exact⟨hx,hy⟩
   .rw[AJ];exact CI.mpr ⟨st.nd,CL.mpr ⟨A_,D_⟩,λc hc d hd e=>hxy (by rw[AE.mp hd]at e;exact(show c =(x,y)from e)▸hc)⟩
  | ts x y =>
   obtain⟨hx,hy,hxy⟩:=hc;have ox:PySem.PyData.strOk x=true/\PySem.PyData.strOk y=true:=⟨ok x hx,ok y hy⟩;have okp:∀q∈ps,PySem.PyData.strOk q.2.1=true/\PySem.PyData.strOk q.2.2=true:=λq m=>⟨ok _ (st.nm q m).1,ok _ (st.nm q m).2⟩;refine Cv rfl ⟨2,rfl,.inl ⟨t,_,rfl,IV.of et,by show ¬(HT.JP 3 0 none=0/\HT.JP 3 3 (some 2)=3);decide,λT1 hT1=>?_⟩⟩;have u0:=C3.new (o:=.tup (Hm ((JC.ts x y).strs.map V.str) none (some 2))) hT1;have f0:(H_ H T1 (.tup (Hm ((JC.ts x y).strs.map V.str) none (some 2)))) T1=some (.tup [.str "take_strike",.str x]):=A7;generalize H_ H T1 (.tup (Hm ((JC.ts x y).strs.map V.str) none (some 2)))=H0 at u0 f0⊢;refine⟨T1,_,rfl,IV.of f0,rfl,_,Cv rfl (C0 rfl rfl (hN2 _ _ (B4 λN3 W=>?_)))⟩;refine Cv rfl ⟨rfl,_,rfl,?_⟩;rw[g (by decide +kernel)];refine P1 (W _ _ (B4 λN4 hN4=>?_));refine Cv rfl ⟨rfl,_,rfl,?_⟩;rw[g (by decide +kernel)];refine P1 (hN4 _ _ (B4 λN5 hN5=>?_));refine Cv rfl ⟨rfl,_,rfl,?_⟩;rw[g (by decide +kernel)];refine P1 (hN5 _ _ ?_);refine Cv rfl ⟨a,_,rfl,.inl (II.of (u0 _ _ e2)),λj D=>?_⟩;have u2:=C3.new (o:=.lst (ss.map V.str)) D;have Y:(H_ H0 j (.lst (ss.map V.str))) j=some (.lst (ss.map V.str)):=A7;generalize H_ H0 j (.lst (ss.map V.str))=H2 at u2 Y⊢;have G:=u0.trans u2;refine Cv rfl ⟨b,rfl,⟨_,II.of (G _ _ e3)⟩,λD3 hD3=>?_⟩;refine Me (λq=>!decide (q.2 =(x,y))) (G _ _ e3) (by lia) hD3 (λz Z L M Q' hQ=>?_) (λσ L M f3=>?_) _
   .have ez:=M _ _ (G _ _ (k z Z).1);refine Cv rfl (Cv rfl ⟨1,rfl,t,_,rfl,IV.of (M _ _ (G _ _ et)),by show ¬(HT.JP 3 0 (some 1)=0/\HT.JP 3 3 none=3);decide,λJ hT2=>?_⟩);have B:=C3.new (o:=.tup (Hm ((JC.ts x y).strs.map V.str) (some 1) none)) hT2;have R:(H_ L J (.tup (Hm ((JC.ts x y).strs.map V.str) (some 1) none))) J=some (.tup [.str x,.str y]):=A7;generalize H_ L J (.tup (Hm ((JC.ts x y).strs.map V.str) (some 1) none))=H4 at B R⊢;refine⟨pd z.2,pd (x,y),n9 (B _ _ ez),n9 R,⟨Cl (okp z Z).1 (okp z Z).2,by simp[pd,PyData.depth,PyData.depthAll]⟩,⟨Cl ox.1 ox.2,by simp[pd,PyData.depth,PyData.depthAll]⟩,?_⟩;rw[Qm];exact⟨_,rfl,hQ _ B⟩
   have s13:=G.trans M;refine⟨by show 2<=sizeLine;decide,λC p=>?_⟩;have B:=C3.new (o:=.lst [.ref j,.ref D3]) p;have R:(H_ L C (.lst [.ref j,.ref D3])) C=some (.lst [.ref j,.ref D3]):=A7;generalize H_ L C (.lst [.ref j,.ref D3])=H4 at B R⊢;have s14:=s13.trans B;refine Cv rfl ⟨t,_,2,_,rfl,rfl,IV.of (s14 _ _ et),rfl,⟨by show 1<=sizeLine;decide,λl5 hl5=>?_⟩⟩;have u5:=C3.new (o:=.lst [V.str y]) hl5;have u45:=B.trans u5;have s15:=s14.trans u5;exact⟨by show 2<=sizeLine;decide,fin C j D3 l5 ss _ _ s15 (u5 _ _ R) ((M.trans u45) _ _ Y) (u45 _ _ f3) (s13.free p) (u0.free D) (G.free hD3) (λq m=>⟨s15 _ _ (k q (AY.mp m).1).1,(k q (AY.mp m).1).2⟩) nm ⟨λq m=>st.nm q (AY.mp m).1,st.nd.sublist (DW.map _),VE (BC ..) st.len⟩ rfl (by show _=List.filter (λq:Str×Str=>!decide (q =(x,y))) (ps.map λq=>q.2);rw[GG];rfl)⟩
theorem Fd:IB ["_law_own"] ["_law_own"] (B6 NH):=KL
def Ui:Sp:=λb H Q _=>∃(X:A0 A3) (o:A3) (a:A0 Str) (ps:A0 IQ),b = [.ref o]/\JQ X H o a ps/\Q (.int (1000 +(a.length:Int) *(ps.length:Int))) H
theorem Fj(T:Tx K mg):IM P w K mg base JR 1 T.aY.f T.aY.fd ["_law_own"] Ui:=by
 refine T.aY.F.o1 Fd λe A c s H n Q E p h=>?_
 .obtain⟨X,o,r,ps,rfl,g,q⟩:=h;refine⟨_,(B5 (C1 (E8 T6 B3 (E8 i8 (G7 (Q2 K) T.as M9 (A6 (E5 (KQ K) (pv 0) B3 (λ_ _=>rfl)) A8)) (G7 (Q2 K) T.as M9 (A6 (E5 (KQ K) (pv 0) B3 (λ_ _=>rfl)) A8)))))),?_⟩;obtain⟨⟨a,b,d,i,j,t,u,v⟩,k,l,st⟩:=id g;have x:=l.2.2;have y:=st.len;refine Cv rfl ⟨o,_,0,_,rfl,rfl,II.of d,rfl,a,_,rfl,.inl (II.of i),Cv rfl ⟨o,_,1,_,rfl,rfl,II.of d,rfl,b,_,rfl,.inl (II.of j),?_⟩⟩;have m:(G0 ps).length=ps.length:=by unfold G0;rw[AB]
  rw[AB,m];exact C0 rfl rfl ⟨.inl ⟨by lia,by lia⟩,C0 rfl rfl q⟩
def Qh:Sp:=λ_ _ _ _=>False
theorem zAu{f:A3}{a:IW}{ps:A0 Str}:IM P w K mg base JR 0 f a ps Qh:=⟨λ_ _ _ _ h=>h.elim,λ_ _ _ _ _ _ _ _ _ _ _ _ _ h=>h.elim⟩
theorem IM.calm{P:HX}{w:HZ}{K:VA}{mg:Str->A5 A2}{base:IC}{CX:QZ}{k:Nat}{f:A3}{b:IW}{ps:A0 Str}{sp:Sp}(F:IM P w K mg base JR k f b ps sp):IM P w K mg base CX k f b ps sp :=
 ⟨F.len,λA a s H args c d Q E g i j l m=>FK (F.run A a s H args c d Q E g i j l m) λr n h=>by
  cases r with
  | ok v=>cases v<;>exact h
  | error e=>exact h.elim⟩
theorem JD:IB ["_law_keeper","_law_deed_here","_law_caught","_law_found","_law_error"] ["_law_keeper","_law_deed_here"] (B6 OL):=KL
def Up(g h:A3):Sp:=λj H Q _=>∃(k p t:A3) (c:A0 Str) (e:A0 IQ) (m:Nat) (d:JC),j = [.ref k,.ref t]/\KZ g h H k p c e m/\m<=1000/\MM H t d/\d.fit c e/\d.can c e /\
 ∀r l i a b f,Bt k p H f->H r=none->H l=none->(eK f k p) r=some (.tup [.str "told",.ref l])->KZ g h f k p a b (m+1)->a.Perm (d.names c)->(b.map λq=>q.2).Perm (d.prs (e.map λq=>q.2))->R3 (eK f k p) l i->(i.map λq=>q.2)=Bc (WG c e) (I0 (B2 b)) a->Q (.ref r) f
set_option maxHeartbeats 1000000 in
theorem Ke(T:Tx K mg):IM P w K mg base JR 9 T.a9.f T.a9.fd ["_law_keeper","_law_deed_here"] (Up T.aa T.ac):=by
 have n:IM P w K mg base (SA P w) 8 T.au.f T.au.fd ["self","name"] (Bk T.aa T.ac):=Sw.IM.calm (t9 T);have j:IM P w K mg base (SA P w) 8 T.aq.f T.aq.fd ["self","name"] (Ar T.aa T.ac):=Sw.IM.calm (m8 T);have c:IM P w K mg base (SA P w) 8 T.an.f T.an.fd ["self","one","other"] (t4 T.aa T.ac):=Sw.IM.calm (i5 T);have a:IM P w K mg base (SA P w) 8 T.am.f T.am.fd ["self","one","other"] (i9 T.aa T.ac):=Sw.IM.calm (Y7 T);have C:IM P w K mg base JR 0 T.bi.f T.bi.fd ["_law_error"] Qh:=zAu;refine T.a9.F.o1 JD λcdv A outer s H vs Q E I h=>?_
 .obtain⟨k,p,t,Y,Z,m,d,rfl,hK,lm,hD,hf,N,q⟩:=h;have hu:=Q9 I;refine⟨_,(A9 (C6 (i:=2) JD.nd rfl (.inl rfl) i6)
   (A9 (C6 (i:=3) JD.nd rfl (.inl rfl) i6)
   (A9 (zAw (i:=4) (λ_ _ z=>z) rfl rfl JD.nd rfl rfl rfl T.bx T.bw (Qn (λ_ _ z=>z) (B8 U2 (E5 (OW K) (pv 1) B3 (λ_ _=>rfl)) B9 (D0 _)) (Gg (i:=3) JD.nd rfl (.inl rfl) (Bb (λ_ _ z=>z) (pv 0) T.ad T.au.m n (Rm I) T.au.b (A6 (E5 (OW K) (pv 1) B3 (λ_ _=>rfl)) A8))) (Qn (λ_ _ z=>z) (B8 U2 (E5 (OW K) (pv 1) B3 (λ_ _=>rfl)) B9 (D0 _)) (Gg (i:=3) JD.nd rfl (.inl rfl) (Bb (λ_ _ z=>z) (pv 0) T.ad T.aq.m j (Rm I) T.aq.b (A6 (E5 (OW K) (pv 1) B3 (λ_ _=>rfl)) A8))) (Qn (λ_ _ z=>z) (B8 U2 (E5 (OW K) (pv 1) B3 (λ_ _=>rfl)) B9 (D0 _)) (Gg (i:=3) JD.nd rfl (.inl rfl) (Bb (λ_ _ z=>z) (pv 0) T.ad T.an.m c (Rm I) T.an.b (A6 (E5 (OW K) (pv 1) B3 (λ_ _=>rfl)) (A6 (E5 (OW K) (pv 1) B3 (λ_ _=>rfl)) A8)))) (Gg (i:=3) JD.nd rfl (.inl rfl) (Bb (λ_ _ z=>z) (pv 0) T.ad T.am.m a (Rm I) T.am.b (A6 (E5 (OW K) (pv 1) B3 (λ_ _=>rfl)) (A6 (E5 (OW K) (pv 1) B3 (λ_ _=>rfl)) A8)))))))
   (λ_=>(B5 (C6 (i:=2) JD.nd rfl (.inl rfl) (pv 4)))))
   (B5 (C1 (Fx (B8 Sb (pv 2) i6 (D0 _)) (J3 (A6 B9 (A6 (pv 3) A8))) (J3 (A6 B9 (A6 (C9 T.bi C (Rm I) (A6 (pv 2) A8)) A8))))))))),?_⟩
  obtain⟨dk,x0,g0,r0,kv0,ks0,rl0,pl0,hk,_,_,_,_,_,hp,_⟩:=id hK.ex;obtain⟨D,okd⟩:=id hD;have g:∀{x y:Str},x≠y->decide (V.str x=V.str y)=false:=λh=>AM λz=>h (V.str.inj z);have O:∀(l:A3) (J:A0 (A3×Row3)) (B:A0 Str) (v:A0 IQ) (G:Hp),Bt k p H G->H l=none->KZ T.aa T.ac G k p B v (m+1)->B.Perm (d.names Y)->(v.map λq=>q.2).Perm (d.prs (Z.map λq=>q.2))->R3 (eK G k p) l J->(J.map λq=>q.2)=Bc (WG Y Z) (I0 (B2 v)) B->∀r,G r=none->Q (.ref r) (H_ G r (.tup [.str "told",.ref l])) :=
   λl J B v G L R M pn S U W r I=>by
    obtain⟨dk1,x1,g1,r1,kv1,ks1,rl1,pl1,hk1,_,_,_,_,_,hp1,_⟩:=M.ex;have rk:r≠k:=(B0 hk1 I).symm;have rp:r≠p:=(B0 hp1 I).symm;have u:=C3.new (o:=.tup [.str "told",.ref l]) I;have r0:H r=none:=by
     cases e:H r with
     | none=>rfl
     | some o=>rw[L r o rk rp e]at I;cases I
    exact q r l J B v _ (L.trans (Bt.of u)) r0 R (by rw[l9 rk rp];exact A7) (M.same u) pn S (U.same (Bt.of u).eK) W
  refine B4 λN1 hN1=>?_;refine hN1 _ _ (B4 λN2 hN2=>hN2 _ _ (B4 λN3 X=>?_));cases d with
  | pn y =>
   refine Cv rfl ⟨t,_,0,_,rfl,rfl,IV.of D,rfl,⟨rfl,_,rfl,X3 ?_⟩⟩;refine Cv rfl ⟨k,dk,Cv rfl ⟨hk,rfl,Cv rfl ⟨t,_,1,_,rfl,rfl,IV.of D,rfl,?_⟩⟩⟩;refine⟨k,p,y,Y,Z,m,rfl,hK,lm,N.1,N.2,by have:=hf.1;lia,λl J B v G L M pn S R U W=>X _ _ ?_⟩;exact Cv rfl ⟨rfl,_,rfl,X3 (Cv rfl ⟨by show 2<=sizeLine;decide,O l J B v G L R M pn (S.map _) U W⟩)⟩
  | tn y =>
   refine Cv rfl ⟨t,_,0,_,rfl,rfl,IV.of D,rfl,⟨rfl,_,rfl,?_⟩⟩;rw[g (by decide +kernel)];refine P1 (Cv rfl ⟨t,_,0,_,rfl,rfl,IV.of D,rfl,⟨rfl,_,rfl,X3 ?_⟩⟩);refine Cv rfl ⟨k,dk,Cv rfl ⟨hk,rfl,Cv rfl ⟨t,_,1,_,rfl,rfl,IV.of D,rfl,?_⟩⟩⟩;refine⟨k,p,y,Y,Z,m,rfl,hK,lm,N,λl J B v G L M en S R U W=>X _ _ ?_⟩;exact Cv rfl ⟨rfl,_,rfl,X3 (Cv rfl ⟨by show 2<=sizeLine;decide,O l J B v G L R M (.of_eq en) S U W⟩)⟩
  | ps x y =>
   refine Cv rfl ⟨t,_,0,_,rfl,rfl,IV.of D,rfl,⟨rfl,_,rfl,?_⟩⟩;rw[g (by decide +kernel)];refine P1 (Cv rfl ⟨t,_,0,_,rfl,rfl,IV.of D,rfl,⟨rfl,_,rfl,?_⟩⟩);rw[g (by decide +kernel)];refine P1 (Cv rfl ⟨t,_,0,_,rfl,rfl,IV.of D,rfl,⟨rfl,_,rfl,X3 ?_⟩⟩);refine Cv rfl ⟨k,dk,Cv rfl ⟨hk,rfl,Cv rfl ⟨t,_,1,_,rfl,rfl,IV.of D,rfl,Cv rfl ⟨t,_,2,_,rfl,rfl,IV.of D,rfl,?_⟩⟩⟩⟩;refine⟨k,p,x,y,Y,Z,m,rfl,hK,lm,N.1,N.2.1,N.2.2,by have:Z.length+1<=140:=hf;lia,λl J v G L M S R U W=>X _ _ ?_⟩;exact Cv rfl ⟨rfl,_,rfl,X3 (Cv rfl ⟨by show 2<=sizeLine;decide,O l J Y v G L R M (.refl _) S U W⟩)⟩
  | ts x y =>
   refine Cv rfl ⟨t,_,0,_,rfl,rfl,IV.of D,rfl,⟨rfl,_,rfl,?_⟩⟩;rw[g (by decide +kernel)];refine P1 (Cv rfl ⟨t,_,0,_,rfl,rfl,IV.of D,rfl,⟨rfl,_,rfl,?_⟩⟩);rw[g (by decide +kernel)];refine P1 (Cv rfl ⟨t,_,0,_,rfl,rfl,IV.of D,rfl,⟨rfl,_,rfl,?_⟩⟩);rw[g (by decide +kernel)];refine P1 ?_;refine Cv rfl ⟨k,dk,Cv rfl ⟨hk,rfl,Cv rfl ⟨t,_,1,_,rfl,rfl,IV.of D,rfl,Cv rfl ⟨t,_,2,_,rfl,rfl,IV.of D,rfl,?_⟩⟩⟩⟩;refine⟨k,p,x,y,Y,Z,m,rfl,hK,lm,N.1,N.2.1,N.2.2,λl J v G L M S R U W=>X _ _ ?_⟩;exact Cv rfl ⟨rfl,_,rfl,X3 (Cv rfl ⟨by show 2<=sizeLine;decide,O l J Y v G L R M (.refl _) S U W⟩)⟩
def Qq:Sp:=λ_ _ _ _=>False
def Wo{K:VA}{x:Str}{H:Hp}{Q:VK}(o:PySem.PyData.strOk x=true)(q:Q (.bl true) H):Yy K (.str x) (.str x) H Q:=by
 have e:Rp K H (.str x) (.str x):=by simp only[Rp]
 have p:Pl (.str x):=⟨by rw[PyData.canLay0];exact o,by rw[PyData.depth];decide⟩;exact⟨_,_,e,e,p,p,by rw[PySem.SeqAt.eqv_refl _ p.1];exact q⟩
def tyB(b:Bool):A2:=.type (bif b then "list" else "tuple")
def zCb{K:VA}:∀b,PySem.W.kitOne K (tyB b) (.type "list")=some b
 | true=>rfl
 | false=>rfl
def zBr{K:VA}:∀b,PySem.W.kitOne K (tyB b) (.type "tuple")=some !b
 | true=>rfl
 | false=>rfl
def zGs{K:VA}:∀b,PySem.W.kitAny K (tyB b) (["list","tuple"].map Value.type)=some true
 | true=>rfl
 | false=>rfl
def zEu(b:Bool):(!decide (V.bl b=V.bl b))=false:=congrArg _ (AQ rfl)
def LT(b:Bool)(xs:A0 V):HO:=bif b then .lst xs else .tup xs
def Rq{K:VA}{H:Hp}{l:A3}{xs:A0 V}:∀{b:Bool},H l=some (LT b xs)->MJ K H (.ref l) (tyB b)
 | true,h=>.lst h
 | false,h=>.tup h
def zEd{H:Hp}{l:A3}{xs:A0 V}:∀{b:Bool},H l=some (LT b xs)->H l=some (.lst xs)\/H l=some (.tup xs)
 | true,h=>.inl h
 | false,h=>.inr h
def sqB(K:VA)(b:Bool):Hp->A3->A0 V->Prop:=bif b then II K else IV K
def Oo{K:VA}{H:Hp}{l:A3}{xs:A0 V}:∀{b:Bool},H l=some (LT b xs)->sqB K b H l xs
 | true,h=>II.of h
 | false,h=>IV.of h
def Yd{K:VA}{H:Hp}{l:A3}{xs:A0 V}{b:Bool}(h:H l=some (LT b xs)):QQ K H l xs:=(zEd h).imp II.of IV.of
def zEl{K:VA}{H:Hp}{l m:A3}{xs c:A0 V}{R:It->Hp->Prop}:∀{b:Bool},H l=some (LT b xs)->H m=some (LT b c)->R (S_ (sqB K b) l m) H->zHt K R l m xs c H
 | true,h,a,q=>.inl ⟨II.of h,II.of a,q⟩
 | false,h,a,q=>.inr ⟨IV.of h,IV.of a,q⟩
def zGw(K:VA):A0 V->Hp->VK->Prop:=λa H Q=>Za K a H Q\/∃(p:A3) (c:A0 String) (b:Bool),a = [.non,.ref p]/\H p=some (.tup (c.map V.ty))/\PySem.W.kitAny K (.type "NoneType") (c.map Value.type)=some b/\Q (.bl b) H
def Vz{X:Cx}(K:VA)(e:X.K=K:=by rfl):J8 X (.builtin "isinstance") (zGw K):=by
 subst e;intro a s σ H f g Q I r h;rcases h with h | ⟨p,x,b,rfl,i,j,q⟩
 .exact Wf X.K rfl a s σ H f g Q I r h
 obtain⟨u,v,rfl,k,c⟩:=r.two;cases c;obtain⟨l,c,⟨⟨y,A,m,o⟩,t,w,n,d⟩,B⟩:=I.tuple (IV.of i);rw[Jn c]at d;cases w;cases d;cases k;exact VR PySem.W.kitx_none I.kIn VC t j (λz=>nomatch z) λC=>⟨.bl b,H,I.tok _,rfl,q⟩
def Vx{K:VA}{d:PyData}{v:V}{H:Hp}{Q:VK}(e:Rp K H d v)(o:PyData.canLay0 d=true)(z:d.depth<=1)(q:Q (.bl true) H):Yy K v v H Q:=by
 have p:Pl d:=⟨o,VE z (by decide)⟩;exact⟨_,_,e,e,p,p,by rw[PySem.SeqAt.eqv_refl _ p.1];exact q⟩
theorem Kq:IB ["_law_found","_law_due"] ["_law_found","_law_due"] (B6 OH):=KL
theorem Yr{f:A3}{a:IW}{ps:A0 Str}:IM P w K mg base JR 0 f a ps Qq:=⟨λ_ _ _ _ h=>h.elim,λ_ _ _ _ _ _ _ _ _ _ _ _ _ h=>h.elim⟩
def Rc(S:Sp):Sp:=λf H Q _=>(∃a:Str,f = [.str a,.str a]/\PySem.PyData.strOk a=true/\∀c,C3 H c->Q (.bl true) c)\/(f = [.non,.non]/\∀c,C3 H c->Q (.bl true) c) \/
 ∃(l m:A3) (b:Bool) (e g:A0 V),f = [.ref l,.ref m]/\H l=some (LT b e)/\H m=some (LT b g)/\e.length=g.length/\e.length<=1000 /\
  (∀(i:Nat) (x y:V) (c:Hp) (h:VK) (E:XK),e[i]?=some x->g[i]?=some y->C3 H c->(∀d,C3 c d->h (.bl true) d)->S [x,y] c h E)/\∀c,C3 H c->Q (.bl true) c
theorem Go(T:Tx K mg){n:Nat}{S:Sp}(c:IM P w K mg base JR n T.al.f T.al.fd ["_law_found","_law_due"] S):IM P w K mg base JR (n+1) T.al.f T.al.fd ["_law_found","_law_due"] (Rc S):=by
 refine T.al.F.ok Kq (λvs H Q E h=>?_) (λcdv A I s H vs Q E C h=>?_)
 .rcases h with⟨a,rfl,_⟩ | ⟨rfl,_⟩ | ⟨l,m,b,z,U,rfl,_⟩
  .rfl
  .rfl
  .rfl
 .refine⟨_,(A9 (M0 (Q6 (G7 (Vz K) T.ai E4 (A6 (pv 1) (A6 (J3 (A6 (m9 T.az S9) (A6 (m9 T.bf Be) A8))) A8)))) (A9 (M0 (PW.pt (Ck (B8 Db (G7 (Q7 K) T.ai E4 (A6 (pv 0) (A6 (m9 T.az S9) A8))) (G7 (Q7 K) T.ai E4 (A6 (pv 1) (A6 (m9 T.az S9) A8))) (D0 _)) (X5 (B8 Db (G7 (Q7 K) T.ai E4 (A6 (pv 0) (A6 (m9 T.bf Be) A8))) (G7 (Q7 K) T.ai E4 (A6 (pv 1) (A6 (m9 T.bf Be) A8))) (D0 _))))) (B5 (C1 Im)) D8)
   (B5 (C1 (Bn (R8 U2 (G7 (Q2 K) T.as M9 (A6 (pv 0) A8)) (G7 (Q2 K) T.as M9 (A6 (pv 1) A8)) (D0 _)) (Eb (G7 (Sd K) T.bs Ua (A6 (V5 (N':=["_law_one","_law_other"]) (cap:=[none,none]) (cl:=[]) (P0 trivial trivial) rfl (zIl K T.bF (A6 (pv 0) (A6 (pv 1) A8))) (λ_ _ _ _=>by exact⟨(RC K (n:=2) (E7 (LM 0) (E7 (LM 1) R0))),P9,(C9 T.al c (C.mono (VD _)) (A6 (pv 0) (A6 (pv 1) A8)))⟩)) A8))))))) D8)
   (A9 (M0 (PW.pt (Ck (B8 Sb (pv 1) i6 (D0 _)) (X5 (Q6 (G7 (Q7 K) T.ai E4 (A6 (pv 1) (A6 (m9 T.bk Mg) A8))))))) (B5 (C1 (Bn (R8 (Og K C.units) (pv 0) (pv 1) (D0 _)) (Eb (R8 U2 (G7 (Q7 K) T.ai E4 (A6 (pv 0) (A6 (m9 T.bk Mg) A8))) (G7 (Q7 K) T.ai E4 (A6 (pv 1) (A6 (m9 T.bk Mg) A8))) (D0 _)))))) D8)
   (A9 (M0 (Q6 (G7 (Q7 K) T.ai E4 (A6 (pv 1) (A6 (m9 T.bl Jt) A8)))) (B5 (C1 (Bn (G7 (Q7 K) T.ai E4 (A6 (pv 0) (A6 (m9 T.bl Jt) A8))) (Eb (R8 (Og K C.units) (pv 0) (pv 1) (D0 _)))))) D8)
   (B5 (C1 (Bn (G7 (Q7 K) T.ai E4 (A6 (pv 0) (A6 (m9 T.bB Yk) A8))) (Bn (zEx (G7 (Q7 K) T.ai E4 (A6 (pv 0) (A6 (m9 T.bl Jt) A8)))) (Eb (R8 (Og K C.units) (pv 0) (pv 1) (D0 _)))))))))),?_⟩
  rcases h with⟨b,rfl,ob,q⟩ | ⟨rfl,q⟩ | ⟨l,m,b,z,U,rfl,hl,hm,G,len,hS,q⟩
  .refine Cv rfl ⟨by show 2<=sizeLine;decide,λt B=>?_⟩;have j:=C3.new (o:=.tup [.ty "list",.ty "tuple"]) B;refine .inl ⟨.str b,t,["list","tuple"],_,false,rfl,A7,.str b,.inl ⟨b,rfl⟩,rfl,?_⟩;generalize H_ H t (.tup [.ty "list",.ty "tuple"])=J at j⊢;refine Cv rfl (P1 ?_);refine Cv rfl ⟨rfl,Cv rfl (P1 ?_)⟩;refine Cv rfl ⟨.str b, "str",_,true,rfl,.str b,rfl,Cv rfl (X3 ?_)⟩;refine Cv rfl (Cv rfl (Wo ob ⟨_,rfl,X3 ?_⟩));refine Cv rfl ⟨.str b, "str",_,true,rfl,.str b,rfl,Cv rfl ⟨.str b, "str",_,true,rfl,.str b,rfl,?_⟩⟩;exact⟨rfl,q _ j⟩
  .refine Cv rfl ⟨by show 2<=sizeLine;decide,λt B=>?_⟩;have j:=C3.new (o:=.tup [.ty "list",.ty "tuple"]) B;have W:(H_ H t (.tup [.ty "list",.ty "tuple"])) t=some (.tup (["list","tuple"].map V.ty)):=A7;generalize H_ H t (.tup [.ty "list",.ty "tuple"])=J at j W⊢;refine .inr ⟨t,["list","tuple"],_,rfl,W,rfl,?_⟩;refine Cv rfl (P1 ?_);refine Cv rfl ⟨rfl,Cv rfl (X3 ?_)⟩;refine Cv rfl (Cv rfl (Vx (d:=.none) (by simp only[Rp]) rfl (by rw[PyData.depth];decide) ⟨_,rfl,X3 ?_⟩));refine Cv rfl ⟨.non, "str",_,false,rfl,.non,rfl,Cv rfl ⟨.non, "str",_,false,rfl,.non,rfl,?_⟩⟩;exact⟨rfl,q _ j⟩
  .refine Cv rfl ⟨by show 2<=sizeLine;decide,λt B=>?_⟩;have j:=C3.new (o:=.tup [.ty "list",.ty "tuple"]) B;have r:=j _ _ hl;have p:=j _ _ hm;refine .inl ⟨.ref m,t,["list","tuple"],_,true,rfl,A7,Rq p,.inr ⟨m,_,rfl,zEd p⟩,zGs b,?_⟩;generalize H_ H t (.tup [.ty "list",.ty "tuple"])=J at j r p⊢;refine Cv rfl (X3 ?_);refine Cv rfl ⟨.ref l, "list",_,b,rfl,Rq r,zCb b,Cv rfl ⟨.ref m, "list",_,b,rfl,Rq p,zCb b,rfl,?_⟩⟩;refine⟨false,congrArg V.bl (zEu b),P1 ?_⟩;refine Cv rfl ⟨.ref l, "tuple",_,_,rfl,Rq r,zBr b,Cv rfl ⟨.ref m, "tuple",_,_,rfl,Rq p,zBr b,rfl,?_⟩⟩;refine⟨false,congrArg V.bl (zEu !b),P1 ?_⟩;refine Cv rfl (C0 (a:=l) rfl (Yd r) (Cv rfl (C0 (a:=m) rfl (Yd p) ⟨rfl,Cv rfl ?_⟩)));refine Z7 (λ_=>?_) (λh=>absurd (AQ (congrArg (λk:Nat=>V.int k) G)) h);refine Cv rfl (Cv rfl ⟨l,m,z,U,?_⟩);refine⟨rfl,zEl r p λD X=>?_⟩;refine Eg (n:=z.length) (λi σ v=>(∃Y Z,σ = [Y,Z])/\C3 J v/\v D=some (.lst ((List.replicate i true).map V.bl))) ⟨⟨_,_,rfl⟩,C3.new X,A7⟩ ?_ ?_ ?_ ?_
   .rintro i σ v L ⟨_,g,_⟩;exact⟨_,_,_,_,Oo (g _ _ r),Oo (g _ _ p),VF G,AF L,AF (G▸L)⟩
   .rintro σ v ⟨_,g,_⟩;exact⟨_,_,Oo (g _ _ r),Oo (g _ _ p),VF G,rfl⟩
   .rintro i σ v x H3 N L ⟨⟨Y,Z,rfl⟩,g,M⟩ ⟨u,x,y,rfl,hu,rfl,O,hy⟩ hN;have R:=C3.new (o:=.tup [x,y]) hu;refine⟨u,Cv rfl ⟨IV.of A7,rfl,_,Cv rfl (C0 rfl rfl ?_)⟩⟩;refine Cv rfl (Cv rfl (hS i x y _ _ _ (O _ (Oo (g _ _ r))) (hy _ (Oo (g _ _ p))) ((j.trans g).trans R) λH4 s4=>?_));refine⟨_,s4 _ _ (R _ _ M),by rw[AB,GK,sizeLine_eq];lia,hN _ _ ⟨⟨_,_,rfl⟩,((g.trans R).trans s4).upd X,?_⟩⟩;rw[A7,List.replicate_succ',AJ];rfl
   .rintro σ v ⟨_,g,M⟩;have e:(List.replicate z.length true).all id=true:=EB.mpr λx O=>(List.mem_replicate.mp O).2;have q':Q (.bl ((List.replicate z.length true).all id)) v:=e.symm▸q _ (j.trans g);exact⟨D,_,rfl,II.of M,q'⟩
def QS(b:Bool)(ds:A0 PyData):PyData:=bif b then .list ds else .tuple ds
def ad(b:Bool)(l:A3):A0 A3:=bif b then [l]else []
def oD:A5 Str->PyData
 | none=>.none
 | some s=>.str s
def Ow(H:Hp):Nat->PyData->V->A0 A3->Prop
 | 0,_,_,_=>False
 | n+1,d,v,L=>(∃s:A5 Str,d=oD s/\v=oV s/\(∀y,s=some y->PySem.PyData.strOk y=true)/\L = []) \/
  ∃(b:Bool) (l:A3) (a:A0 V) (c:A0 PyData) (e:A0 (A0 A3)),d=QS b c/\v = .ref l/\H l=some (LT b a)/\a.length=c.length/\a.length=e.length/\a.length<=200/\L=ad b l++e.flatten /\
   ∀(i:Nat) f x M,c[i]?=some f->a[i]?=some x->e[i]?=some M->Ow H n f x M
def Ow.keep{H H':Hp}{X:A0 A3}(k:∀a o,H a=some o->a∉X->H' a=some o)(c:∀x∈X,∀xs,H x≠some (.tup xs)):∀{n:Nat} {d:PyData} {v:V} {L:A0 A3},(∀l∈L,l∉X)->Ow H n d v L->Ow H' n d v L
 | 0,_,_,_,_,h=>h.elim
 | _+1,_,_,_,_,.inl h=>.inl h
 | n+1,_,_,_,e,.inr ⟨b,l,xs,j,m,p,q,f,r,s,t,u,h⟩=>by
  subst u;refine .inr ⟨b,l,xs,j,m,p,q,k _ _ f ?_,r,s,t,rfl,λi w x M A B g=>(h i w x M A B g).keep k c λy C=>e y (BN _ (List.mem_flatten.mpr ⟨M,BB g,C⟩))⟩;cases b with
  | true=>exact e l (.head _)
  | false=>exact λz=>c l z xs f
def Ow.same{H H':Hp}(s:C3 H H'){n:Nat}{d:PyData}{v:V}{L:A0 A3}(h:Ow H n d v L):Ow H' n d v L:=h.keep (X:=[]) (λa o e _=>s a o e) (λx z=>by cases z) λl _ z=>by cases z
def Ow.opt{H:Hp}{n:Nat}{s:A5 Str}(h:∀y,s=some y->PySem.PyData.strOk y=true):Ow H (n+1) (oD s) (oV s) []:=.inl ⟨s,rfl,rfl,h,rfl⟩
def Ow.str{H:Hp}{n:Nat}{s:Str}(h:PySem.PyData.strOk s=true):Ow H (n+1) (.str s) (.str s) []:=Ow.opt (s:=some s) λy e=>by cases e;exact h
def Ow.LT{H:Hp}{n:Nat}{b:Bool}{l:A3}{xs:A0 V}{ds:A0 PyData}{Ls:A0 (A0 A3)}(e:H l=some (Sw.LT b xs))(a:xs.length=ds.length)(l2:xs.length=Ls.length)(c:xs.length<=200)(h:∀(i:Nat) d' x M,ds[i]?=some d'->xs[i]?=some x->Ls[i]?=some M->Ow H n d' x M):Ow H (n+1) (QS b ds) (.ref l) (ad b l++Ls.flatten):=.inr ⟨b,l,xs,ds,Ls,rfl,rfl,e,a,l2,c,rfl,h⟩
def Lg{α:Type}:∀n:Nat,(List.replicate n ([]:A0 α)).flatten = []
 | 0=>rfl
 | n+1=>by rw[DB,FM,Lg n];rfl
def Ow.flat{H:Hp}{n:Nat}{b:Bool}{l:A3}{xs:A0 V}{ds:A0 PyData}(e:H l=some (Sw.LT b xs))(a:xs.length=ds.length)(c:xs.length<=200)(h:∀(i:Nat) d' x,ds[i]?=some d'->xs[i]?=some x->Ow H n d' x []):Ow H (n+1) (QS b ds) (.ref l) (ad b l):=by
 have:=Ow.LT (n:=n) (Ls:=List.replicate xs.length []) e a (by rw[GK]) c λi d' x M d f g=>by
  rw[(List.mem_replicate.mp (BB g)).2];exact h i d' x d f
 rwa [Lg,BW]at this
def Ow.strs{H:Hp}{n:Nat}{b:Bool}{l:A3}{ss:A0 Str}(e:H l=some (Sw.LT b (ss.map V.str)))(f:∀s∈ss,PySem.PyData.strOk s=true)(g:ss.length<=200):Ow H (n+2) (QS b (ss.map PyData.str)) (.ref l) (ad b l) :=
 Ow.flat e (by rw[AB,AB]) (by rw[AB];exact g) λi h x c a=>by
  rw[AH]at c a;obtain⟨s,d,rfl⟩:=BF.mp c;rw[d]at a;cases a;exact .str (f s (BB d))
def Ow.two{H:Hp}{n:Nat}{l:A3}{x y:V}{d e:PyData}{L M:A0 A3}(h:H l=some (.tup [x,y]))(a:Ow H n d x L)(b:Ow H n e y M):Ow H (n+1) (.tuple [d,e]) (.ref l) (L++M):=by
 have:=Ow.LT (n:=n) (b:=false) (xs:=[x,y]) (ds:=[d,e]) (Ls:=[L,M]) h rfl rfl (by show 2<=200;decide) λi j k m c f g=>by
  match i,c,f,g with
  | 0,c,f,g=>cases c;cases f;cases g;exact a
  | 1,c,f,g=>cases c;cases f;cases g;exact b
 rwa [show ad false l ++ [L,M].flatten=L++M by show [] ++(L ++(M ++ []))=_;rw[BW];rfl]at this
def Z9:Nat->Sp
 | 0=>Qq
 | n+1=>Rc (Z9 n)
def zAj{ds a:A0 PyData}:∀{b c:Bool},QS b ds=QS c a->b=c/\ds=a
 | true,true,h=>⟨rfl,PyData.list.inj h⟩
 | false,false,h=>⟨rfl,PyData.tuple.inj h⟩
 | true,false,h=>by cases h
 | false,true,h=>by cases h
def Tc{ds:A0 PyData}{s:A5 Str}:∀{b:Bool},oD s≠QS b ds
 | true,h=>by cases s<;>cases h
 | false,h=>by cases s<;>cases h
def zEe:∀{a b:A5 Str},oD a=oD b->a=b
 | none,none,_=>rfl
 | some _,some _,h=>by cases h;rfl
 | none,some _,h=>by cases h
 | some _,none,h=>by cases h
def Ow.alike{H:Hp}:∀{n:Nat} {d:PyData} {x y:V} {L M:A0 A3} {Q:VK} {E:XK},Ow H n d x L->Ow H n d y M->(∀H',C3 H H'->Q (.bl true) H')->Z9 n [x,y] H Q E
 | 0,_,_,_,_,_,_,_,h,_,_=>h.elim
 | n+1,d,x,y,_,_,Q,E,.inl ⟨s,f,j,o,_⟩,g,q=>by
  subst f j;rcases g with⟨v,a,c,_⟩ | ⟨b,l,r,k,m,a,_⟩
  .cases zEe a;subst c;cases s with
   | none=>exact .inr (.inl ⟨rfl,q⟩)
   | some s=>exact .inl ⟨s,rfl,o s rfl,q⟩
  .exact absurd a Tc
 | n+1,d,x,y,_,_,Q,E,.inr ⟨b,l,r,k,m,f,j,a,w,N,O,_,h⟩,g,q=>by
  subst f j;rcases g with⟨v,c,_⟩ | ⟨P,z,p,A,e,c,B,C,D,R,S,_,F⟩
  .exact absurd c.symm Tc
  .obtain⟨rfl,rfl⟩:=zAj c;subst B;refine .inr (.inr ⟨l,z,b,r,p,rfl,a,C,w.trans D.symm,by lia,λi x y H' T E t G s I=>?_,q⟩);have U:=(AK.mp t).1;have u:k[i]?=some (k[i]'(by lia)):=AF _;have J:m[i]?=some (m[i]'(by lia)):=AF _;have K:e[i]?=some (e[i]'(by lia)):=AF _;exact((h i _ x _ u t J).same s).alike ((F i _ y _ u G K).same s) I
theorem Y6(T:Tx K mg):∀n,IM P w K mg base JR n T.al.f T.al.fd ["_law_found","_law_due"] (Z9 n)
 | 0=>Yr
 | n+1=>Go T (Y6 T n)
def zBa{a b:A0 IQ}(h1:a.Pairwise QH)(h2:b.Pairwise QH)(h:(a.map λq=>q.2).Perm (b.map λq=>q.2)):(a.map λq=>q.2)=b.map λq=>q.2 :=
 List.Perm.eq_of_pairwise (le:=leK) (λ_ _ _ _=>Ut) (CT.mpr h1) (CT.mpr h2) h
def K5(a:A0 (Str×Str))(n:Str):A0 Str:=(a.filter λk=>decide (k.2=n)).map λk=>k.1
def S5(a:A0 (Str×Str))(n:Str):A0 Str:=(a.filter λk=>decide (k.1=n)).map λk=>k.2
def Ak(a:A0 IQ)(n:Str):B2 a n=K5 (a.map λq=>q.2) n:=by
 unfold B2 K5;rw[GG,BQ];rfl
def Dx(a:A0 IQ)(n:Str):C4 a n=S5 (a.map λq=>q.2) n:=by
 unfold C4 S5;rw[GG,BQ];rfl
def Eu{K:VA}{l D:A3}{a:A0 IQ}{n:Str}{b:Hp}{σ:St}{Q:St->Hp->Prop}(e:b l=some (.lst (G0 a)))(p:∀q∈a,G9 b q)(x:a.length<=300)(u:b D=none)(hσ:∃o r,σ = [o,r,some (.str n)])(h:∀σ s,C3 b s->s D=some (.lst ((K5 (a.map λq=>q.2) n).map V.str))->Q σ s) :
  Ax (SV K 2 (Dk (P2 0) (Dk (P2 1) TJ))) (j7 (OS rEq (V2 1) (V2 2))) (g7 D (V2 0)) (QF K l) σ (H_ b D (.lst [])) Q:=by
 refine P8 (PP (K:=K) (II.of e)) (λi σ d=>(∃o r,σ = [o,r,some (.str n)])/\C3 b d/\d D=some (.lst ((K5 ((a.take i).map λq=>q.2) n).map V.str)))
  ⟨hσ,C3.new u,A7⟩ (λi σ b _ ⟨_,A,_⟩=>A.at l) ?_ ?_
 .rintro i σ d v N t ⟨⟨o,r,rfl⟩,f,g⟩ j;unfold G0 at t;rw[AH]at t;obtain⟨z,w,rfl⟩:=BF.mp t;have m:K5 ((a.take (i+1)).map λq=>q.2) n=K5 ((a.take i).map λq=>q.2) n++if z.2.2=n then [z.2.1]else []:=by
   unfold K5;rw[E3 w,AJ,CM,AJ,BM,FZ,BO,DQ];by_cases c:z.2.2=n
   .rw[AN (AQ c),AN c];rfl
   .rw[AI λy=>c (BL y),AI c];rfl
  have C:((K5 ((a.take i).map λq=>q.2) n).map V.str).length<=300:=by
   unfold K5;rw[AB,AB];have h:=(DW (l:=(a.take i).map λq=>q.2) (p:=λk=>decide (k.2=n))).length_le;rw[AB,AZ]at h;lia
  refine⟨z.1,Cv rfl ⟨IV.of (f _ _ (p z (BB w))),rfl,_,Cv rfl (C0 rfl rfl ?_)⟩⟩;refine Cv rfl (Cv rfl ⟨rfl,Cv rfl (Z7 (λc=>?_) (λc=>?_))⟩)
  .have c:z.2.2=n:=by injection BL c
   refine Cv rfl ⟨_,g,by rw[sizeLine_eq];lia,j _ _ ⟨⟨_,_,rfl⟩,f.upd u,?_⟩⟩;rw[A7,m,AN c,AJ];rfl
  .have c:¬z.2.2=n:=λy=>c (AQ (congrArg V.str y));exact j _ _ ⟨⟨_,_,rfl⟩,f,by rw[m,AI c,BW];exact g⟩
 .rintro σ d ⟨_,f,g⟩;have B:(G0 a).length=a.length:=by unfold G0;rw[AB]
  rw[B,BS]at g;exact h σ d f g
def Ff(a:A0 (Str×Str))(n:Str):(K5 a n).length<=a.length:=by
 unfold K5;rw[AB];exact DW.length_le
def Km{K:VA}{l D:A3}{a:A0 IQ}{n:Str}{b:Hp}{σ:St}{Q:St->Hp->Prop}(e:b l=some (.lst (G0 a)))(p:∀q∈a,G9 b q)(x:a.length<=300)(u:b D=none)(hσ:∃o r,σ = [o,r,some (.str n)])(h:∀σ s,C3 b s->s D=some (.lst ((S5 (a.map λq=>q.2) n).map V.str))->Q σ s) :
  Ax (SV K 2 (Dk (P2 0) (Dk (P2 1) TJ))) (j7 (OS rEq (V2 0) (V2 2))) (g7 D (V2 1)) (QF K l) σ (H_ b D (.lst [])) Q:=by
 refine P8 (PP (K:=K) (II.of e)) (λi σ d=>(∃o r,σ = [o,r,some (.str n)])/\C3 b d/\d D=some (.lst ((S5 ((a.take i).map λq=>q.2) n).map V.str)))
  ⟨hσ,C3.new u,A7⟩ (λi σ b _ ⟨_,A,_⟩=>A.at l) ?_ ?_
 .rintro i σ d v N t ⟨⟨o,r,rfl⟩,f,g⟩ j;unfold G0 at t;rw[AH]at t;obtain⟨z,w,rfl⟩:=BF.mp t;have m:S5 ((a.take (i+1)).map λq=>q.2) n=S5 ((a.take i).map λq=>q.2) n++if z.2.1=n then [z.2.2]else []:=by
   unfold S5;rw[E3 w,AJ,CM,AJ,BM,FZ,BO,DQ];by_cases c:z.2.1=n
   .rw[AN (AQ c),AN c];rfl
   .rw[AI λy=>c (BL y),AI c];rfl
  have C:((S5 ((a.take i).map λq=>q.2) n).map V.str).length<=300:=by
   unfold S5;rw[AB,AB];have h:=(DW (l:=(a.take i).map λq=>q.2) (p:=λk=>decide (k.1=n))).length_le;rw[AB,AZ]at h;lia
  refine⟨z.1,Cv rfl ⟨IV.of (f _ _ (p z (BB w))),rfl,_,Cv rfl (C0 rfl rfl ?_)⟩⟩;refine Cv rfl (Cv rfl ⟨rfl,Cv rfl (Z7 (λc=>?_) (λc=>?_))⟩)
  .have c:z.2.1=n:=by injection BL c
   refine Cv rfl ⟨_,g,by rw[sizeLine_eq];lia,j _ _ ⟨⟨_,_,rfl⟩,f.upd u,?_⟩⟩;rw[A7,m,AN c,AJ];rfl
  .have c:¬z.2.1=n:=λy=>c (AQ (congrArg V.str y));exact j _ _ ⟨⟨_,_,rfl⟩,f,by rw[m,AI c,BW];exact g⟩
 .rintro σ d ⟨_,f,g⟩;have B:(G0 a).length=a.length:=by unfold G0;rw[AB]
  rw[B,BS]at g;exact h σ d f g
def Jv(a:A0 (Str×Str))(n:Str):(S5 a n).length<=a.length:=by
 unfold S5;rw[AB];exact DW.length_le
def zAx{q r:IQ}(h:QH q r):NR q.2.1 r.2.1:=λz=>by
 have e:TS.JJ (Gk r) (Gk q)=true:=TS.I_.mpr (.inl z);rw[show TS.JJ (Gk r) (Gk q)=false from h]at e;cases e
def zAe{q r:IQ}(h:QH q r)(a:q.2.1=r.2.1):NR q.2.2 r.2.2:=λz=>by
 have e:TS.JJ (Gk r) (Gk q)=true:=TS.I_.mpr (.inr ⟨by show r.2.1.cps.toList=q.2.1.cps.toList;rw[a],z⟩);rw[show TS.JJ (Gk r) (Gk q)=false from h]at e;cases e
def Hj{c:A0 IQ}(h:c.Pairwise QH)(n:Str):(B2 c n).Pairwise NR:=by
 unfold B2;rw[CT];exact(h.filter _).imp fun{a b} z=>zAx z
def Nz{c:A0 IQ}(h:c.Pairwise QH)(n:Str):(C4 c n).Pairwise NR:=by
 unfold C4;rw[CT];exact(EJ.mp (h.filter _)).imp fun{a b} ⟨d,e,z⟩=>zAe z ((BL (AY.mp d).2).trans (BL (AY.mp e).2).symm)
def Gq{a ps:A0 IQ}{n:Str}{ts:A0 Str}(h:a.Pairwise QH)(k:(a.map λq=>q.2).Perm (ps.map λq=>q.2))(p:ts.Perm (K5 (ps.map λq=>q.2) n))(w:ts.Pairwise NR):ts=B2 a n :=
 K7 w (Hj h n) (p.trans (by rw[Ak];exact((k.symm.filter _).map _)))
def Nt{a ps:A0 IQ}{n:Str}{ts:A0 Str}(h:a.Pairwise QH)(k:(a.map λq=>q.2).Perm (ps.map λq=>q.2))(p:ts.Perm (S5 (ps.map λq=>q.2) n))(w:ts.Pairwise NR):ts=C4 a n :=
 K7 w (Nz h n) (p.trans (by rw[Dx];exact((k.symm.filter _).map _)))
def y7{H:Hp}{l:A3}{ss:A0 Str}{n:Nat}(e:H l=some (.lst (ss.map V.str)))(c:∀s∈ss,PySem.PyData.strOk s=true)(a:ss.length<=200):Ow H (n+2) (QS true (ss.map PyData.str)) (.ref l) [l]:=Ow.strs (b:=true) e c a
def zEq{H:Hp}{t:A3}{ss:A0 Str}{n:Nat}(e:H t=some (.tup (ss.map V.str)))(c:∀s∈ss,PySem.PyData.strOk s=true)(a:ss.length<=200):Ow H (n+2) (QS false (ss.map PyData.str)) (.ref t) []:=Ow.strs (b:=false) e c a
def La{H:Hp}{l:A3}{a:A0 IQ}(e:H l=some (.lst (G0 a)))(c:∀q∈a,G9 H q)(j:∀q∈a,PySem.PyData.strOk q.2.1=true/\PySem.PyData.strOk q.2.2=true)(d:a.length<=200):Ow H 3 (QS true ((a.map λq=>q.2).map λk=>QS false ([k.1,k.2].map PyData.str))) (.ref l) [l]:=by
 refine Ow.flat (b:=true) e (by unfold G0;rw[AB,AB,AB]) (by unfold G0;rw[AB];exact d) λi p x f g=>?_;unfold G0 at g;rw[AH]at g;rw[BQ,AH]at f;obtain⟨q,o,rfl⟩:=BF.mp g;rw[o]at f;cases f;have m:=BB o;exact zEq (n:=0) (ss:=[q.2.1,q.2.2]) (c q m) (λs h=>(AU.mp h).elim (λe=>by rw[e];exact(j q m).1) λh=>by rw[AE.mp h];exact(j q m).2) (by show 2<=200;decide)
theorem MT:IB ["_law_web","_law_own","_law_name"] ["_law_web","_law_own"] (B6 NJ):=KL
def Vb(C:A3):Sp:=λe H Q _=>∃(X:A0 A3) (x o:A3) (a b:A0 Str) (c ps:A0 IQ),e = [.ref x,.ref o]/\IR C H x b c/\JQ X H o a ps/\b.Perm a/\(c.map λq=>q.2).Perm (ps.map λq=>q.2)/\∀d,C3 H d->Q (.bl true) d
set_option maxHeartbeats 4000000 in
theorem Fc(T:Tx K mg):IM P w K mg base JR 4 T.aX.f T.aX.fd ["_law_web","_law_own"] (Vb T.ac):=by
 have g:IM P w K mg base JR 3 T.al.f T.al.fd ["_law_found","_law_due"] (Z9 3):=Y6 T 3;refine T.aX.F.o1 MT λcdv A outer s H vs Q E J h=>?_
 .obtain⟨X,x,o,ss,k,j,ps,rfl,W,hO,pn,kq,q⟩:=h;refine⟨_,(A9 (M0 (PW.pt (Ck (V0 (Q6 (C9 T.al g (Rm J) (A6 (J5 (pv 0) T.ag T.ab.m (E6 T) (Rm J) T.ab.b .nil J6) (A6 (G7 (w4 K) T.av N8 (A6 (E5 (KQ K) (pv 1) B3 (λ_ _=>rfl)) A8)) A8))))) (X5 (V0 (Q6 (C9 T.al g (Rm J) (A6 (J5 (pv 0) T.ag T.ae.m (I9 T) (Rm J) T.ae.b .nil J6) (A6 (G7 (Ft K) T.av N8 (A6 (E5 (KQ K) (pv 1) B3 (λ_ _=>rfl)) A8)) A8)))))))) (B5 (C1 Im)) D8)
   (A9 (U4 PassesOwn.never rfl (NB K (E5 (KQ K) (pv 1) B3 (λ_ _=>rfl))) (J0 (i:=2) MT.nd rfl (.inr rfl))
   (A9 (M0 (V0 (Q6 (C9 T.al g (Rm J) (A6 (N0 (pv 0) T.ag T.ar.m (T0 T) (Rm J) T.ar.b .nil J6 (A6 (pv 2) A8)) (A6 (G7 (w4 K) T.av N8 (A6 (V5 (N':=["_law_one","_law_other","_law_name"]) (cap:=[none,none,some 2]) (cl:=[("_law_name",_)]) (P0 ⟨⟨rfl,rfl,rfl,rfl⟩,trivial⟩ ⟨rfl,trivial⟩) rfl (NB K (E5 (KQ K) (pv 1) B3 (λ_ _=>rfl))) (λ_ _ _ _=>by exact⟨(RC K (n:=2) (E7 (LM 0) (E7 (LM 1) R0))),(K8 (B8 U2 (pv 1) (pv 2) (D0 _))),(pv 0)⟩)) A8)) A8))))) (B5 (C1 Im)) D8)
   (B5 (M0 (V0 (Q6 (C9 T.al g (Rm J) (A6 (N0 (pv 0) T.ag T.ap.m (S7 T) (Rm J) T.ap.b .nil J6 (A6 (pv 2) A8)) (A6 (G7 (w4 K) T.av N8 (A6 (V5 (N':=["_law_one","_law_other","_law_name"]) (cap:=[none,none,some 2]) (cl:=[("_law_name",_)]) (P0 ⟨⟨rfl,rfl,rfl,rfl⟩,trivial⟩ ⟨rfl,trivial⟩) rfl (NB K (E5 (KQ K) (pv 1) B3 (λ_ _=>rfl))) (λ_ _ _ _=>by exact⟨(RC K (n:=2) (E7 (LM 0) (E7 (LM 1) R0))),(K8 (B8 U2 (pv 0) (pv 2) (D0 _))),(pv 1)⟩)) A8)) A8))))) (B5 (C1 Im)) D8))))
   (B5 (C1 Im)))),?_⟩
  obtain⟨r,dx,a1,b1,c,d,kc,kd,e2,_,_,pin,_⟩:=id W;obtain⟨⟨n,a,ho,hn,ha,_⟩,U,nm,st⟩:=id hO;have U:∀q∈ps,G9 H q:=λq u=>(U q u).1;have t:∀y∈k,PySem.PyData.strOk y=true:=λy hy=>O7 (nm.1 y (pn.mem_iff.mp hy));have M:∀q∈j,PySem.PyData.strOk q.2.1=true/\PySem.PyData.strOk q.2.2=true:=λq u=>⟨t _ (r.mem q u).1,t _ (r.mem q u).2⟩;have lns:k.length<=200:=VE r.len (by decide);refine B4 λN1 hN1=>?_;refine Cv rfl ⟨x,dx,Cv rfl ⟨e2,rfl,x,k,j,rfl,W,λl1 hl1=>?_⟩⟩;have s5:=C3.new (o:=.lst (k.map V.str)) hl1;have Y:(H_ H l1 (.lst (k.map V.str))) l1=some (.lst (k.map V.str)):=A7;generalize H_ H l1 (.lst (k.map V.str))=H5 at s5 Y⊢;refine Cv rfl ⟨o,_,0,_,rfl,rfl,II.of (s5 _ _ ho),rfl,n,ss,rfl,II.of (s5 _ _ hn),λl2 ss2 hl2 p2 w2=>?_⟩;rw[K7 w2 r.srt (p2.trans pn.symm)];have u6:=C3.new (o:=.lst (k.map V.str)) hl2;have Z:=s5.trans u6;have g6:(H_ H5 l2 (.lst (k.map V.str))) l2=some (.lst (k.map V.str)):=A7;have f6:=u6 _ _ Y;generalize H_ H5 l2 (.lst (k.map V.str))=H6 at Z g6 f6⊢;refine(y7 f6 t lns).alike (y7 g6 t lns) λH7 s7=>⟨_,rfl,P1 ?_⟩;have B:=Z.trans s7;refine Cv rfl ⟨x,dx,Cv rfl ⟨B _ _ e2,rfl,x,k,j,rfl,W.same B,λl3 hl3=>?_⟩⟩;have u8:=C3.new (o:=.lst (G0 j)) hl3;have L:=B.trans u8;have f8:(H_ H7 l3 (.lst (G0 j))) l3=some (.lst (G0 j)):=A7;generalize H_ H7 l3 (.lst (G0 j))=H8 at L f8⊢;refine Cv rfl ⟨o,_,1,_,rfl,rfl,II.of (L _ _ ho),rfl,a,ps,rfl,II.of (L _ _ ha),G6 L U,λm N hm pm so=>?_⟩;have u9:=C3.new (o:=.lst (G0 N)) hm;have s9:=L.trans u9;have ek:(N.map λq=>q.2)=j.map λq=>q.2:=zBa so r.srq ((pm.map _).trans kq.symm);have e9:=La (H:=H_ H8 m (.lst (G0 N))) A7 (G6 s9 λq u=>U q (pm.mem_iff.mp u)) (λq u=>by
   have:q.2∈j.map λq=>q.2:=ek▸BK.mpr ⟨q,u,rfl⟩;obtain⟨z,hz,e⟩:=BK.mp this;rw[<-e];exact M z hz) (by rw[pm.length_eq];exact st.len)
  rw[ek]at e9;refine(La (u9 _ _ f8) (G6 s9 pin) M r.lenq).alike e9 λH10 s10=>⟨_,rfl,P1 ?_⟩;have s0:=s9.trans s10;clear e9 u9 f8 L u8 B s7 f6 g6 Z u6 s5 Y;refine hN1 _ _ (B4 λN2 hN2=>?_);have h0:=s0 _ _ hn;refine Cv rfl ⟨o,_,0,_,rfl,rfl,II.of (s0 _ _ ho),rfl,n,rfl,⟨_,II.of h0⟩,Ge (PP (II.of h0)) (λi σ O=>(∃v4,σ = [some (.ref x),some (.ref o),v4])/\C3 H10 O) ?_ ?_ ?_ ?_⟩
  .exact⟨⟨_,rfl⟩,λb o e=>e⟩
  .rintro i σ O hi ⟨_,s1⟩;exact s1.at n
  .rintro i σ O v hv ⟨⟨v4,rfl⟩,s1⟩ D1 hD1 _;rw[AH]at hv;obtain⟨y,hy,rfl⟩:=BF.mp hv;have R:y∈k:=pn.mem_iff.mpr (BB hy);have C:=s0.trans s1;refine Yt λM1 hM1=>?_;refine Cv rfl ⟨x,dx,Cv rfl ⟨C _ _ e2,rfl,Cv rfl ⟨x,y,k,j,rfl,W.same C,R,λl5 hl5=>?_⟩⟩⟩;have u1:=C3.new (o:=.lst ((B2 j y).map V.str)) hl5;have f1:(H_ O l5 (.lst ((B2 j y).map V.str))) l5=some (.lst ((B2 j y).map V.str)):=A7;generalize H_ O l5 (.lst ((B2 j y).map V.str))=H2 at u1 f1⊢;have G:=C.trans u1;refine Cv rfl ⟨o,_,1,_,rfl,rfl,II.of (G _ _ ho),rfl,a,rfl,⟨_,II.of (G _ _ ha)⟩,λD hD=>Eu (G _ _ ha) (G6 G U) (VE st.len (by decide)) hD ⟨_,_,rfl⟩ λσ H3 s3 e3=>?_⟩;refine⟨D,_,rfl,II.of e3,λl6 ts hl6 pt wt=>?_⟩;rw[Gq r.srq kq pt wt];have u4:=C3.new (o:=.lst ((B2 j y).map V.str)) hl6;have l:∀z∈B2 j y,PySem.PyData.strOk z=true:=λz hz=>t z (U3 r.mem y R z hz);have p:(B2 j y).length<=200:=by rw[Ak];exact VE (Ff ..) (by rw[AB];exact r.lenq)
   refine(y7 (u4 _ _ (s3 _ _ f1)) l p).alike (y7 A7 l p) λH4 s4=>⟨_,rfl,P1 ?_⟩;have s14:=((u1.trans s3).trans u4).trans s4;have S:=C.trans s14;clear u1 f1 u4 s3 s4 e3 l p;refine hM1 _ _ ?_;refine Cv rfl ⟨x,dx,Cv rfl ⟨S _ _ e2,rfl,Cv rfl ⟨x,y,k,j,rfl,W.same S,R,λl7 hl7=>?_⟩⟩⟩;have u5:=C3.new (o:=.lst ((C4 j y).map V.str)) hl7;have Y:(H_ H4 l7 (.lst ((C4 j y).map V.str))) l7=some (.lst ((C4 j y).map V.str)):=A7;generalize H_ H4 l7 (.lst ((C4 j y).map V.str))=H5 at u5 Y⊢;have I:=S.trans u5;refine Cv rfl ⟨o,_,1,_,rfl,rfl,II.of (I _ _ ho),rfl,a,rfl,⟨_,II.of (I _ _ ha)⟩,λD hD=>Km (I _ _ ha) (G6 I U) (VE st.len (by decide)) hD ⟨_,_,rfl⟩ λσ H6 Z e6=>?_⟩;refine⟨D,_,rfl,II.of e6,λl8 ts hl8 pt wt=>?_⟩;rw[Nt r.srq kq pt wt];have u7:=C3.new (o:=.lst ((C4 j y).map V.str)) hl8;have l:∀z∈C4 j y,PySem.PyData.strOk z=true:=λz hz=>by
    obtain⟨q,u,e⟩:=BK.mp (LN.mp hz);have:=(M q u).2
    rwa [e]at this
   have p:(C4 j y).length<=200:=by rw[Dx];exact VE (Jv ..) (by rw[AB];exact r.lenq)
   refine(y7 (u7 _ _ (Z _ _ Y)) l p).alike (y7 A7 l p) λH8 L=>⟨_,rfl,P1 ?_⟩;exact hD1 _ _ ⟨⟨_,rfl⟩,s1.trans (s14.trans (((u5.trans Z).trans u7).trans L))⟩
  .rintro σ O ⟨⟨v4,rfl⟩,s1⟩;exact hN2 _ _ (q O (s0.trans s1))
def Nw{lo:Int}{n:Nat}{g:TG}{c:TS}{D:Ends}{σ:St}{H:Hp}(Pv:Nat->St->Hp->Prop)(f:Pv 0 σ H)
  (h:∀i σ H,i<n->Pv i σ H->∀a:Ends,(∀σ' H',Pv (i+1) σ' H'->a.nx σ' H')->(∀σ' H',Pv i σ' H'->a.bk σ' H')->g (.int (lo+i)) σ H λσ2 b=>c a σ2 b) (d:∀i σ H,Pv i σ H->D.nx σ H) :
  ∃W:Nat->Nat->St->Hp->Prop,(∃m,W 0 m σ H)/\∀i m σ H,W i m σ H ->
   ((QT lo n).stop i H/\D.nx σ H)\/((QT lo n).go i H/\∃N:St->Hp->Prop,(∀σ' H',N σ' H'->∃e,e < m/\W (i+1) e σ' H')/\∀x H',(QT lo n).yld i H x H'->g x σ H' λσ2 b=>c { D with nx:=N,ct:=N,bk:=D.nx } σ2 b) :=
 Ij Pv f (λi σ H j k=>h i σ H j k _ (λ_ _ z=>z) (d i)) (d n)
def IR.sm{C:A3}{H H':Hp}{x p:A3}{c:Int}{ns:A0 Str}{g:A0 IQ}(h:IR C H x ns g)(L:IL H p c)(s:Sm [p] H H'):IR C H' x ns g:=by
 obtain⟨m,r,a,b,c,d,t,u,w,i,j,A,B,D,E,F⟩:=h;obtain⟨y,z,G,_⟩:=id L;have k:∀{b:A3} {o:HO},H b=some o->o≠ .lst [.int y,.int z,.int _]->H' b=some o:=λe n=>Le s e (K0 e G n);exact⟨m,r,a,b,c,d,t,u,k w (by intro z;cases z),Le s i (L.ne i),Le s j (L.neP j),λq I=>k (A q I) (by intro z;cases z),k B (by intro z;cases z),k D (by intro z;cases z),λn f=>let⟨l,v,e⟩:=E n f;⟨l,v,Le s e (L.ne e)⟩,λn f=>let⟨l,v,e⟩:=F n f;⟨l,v,Le s e (L.ne e)⟩⟩
def KZ.sm{f i:A3}{H H':Hp}{k p l:A3}{c:Int}{ns:A0 Str}{j:A0 IQ}{m:Nat}(h:KZ f i H k p ns j m)(L:IL H l c)(q:l≠p)(s:Sm [l] H H'):KZ f i H' k p ns j m:=by
 obtain⟨⟨v,x,g,r,a,w,A,B,t,C,u,D,E,F,G,I⟩,J⟩:=h;obtain⟨y,z,d,K⟩:=id L;have lk:l≠k:=K0 d t (by intro z;cases z);refine⟨⟨v,x,g,r,a,w,A,B,Le s t lk.symm,C.sm (p:=l) (c:=c) ⟨y,z,by rw[l9 lk q];exact d,K⟩ (λb o e n=>?_),Le s u (K0 u d (by intro z;cases z)),D,E,F,Le s G q.symm,I⟩,J⟩;obtain⟨M,N,e⟩:=Rr e;rw[l9 M N];exact s _ _ e n
def JQ.neX{X Y:A0 A3}{H:Hp}{o:A3}{ss:A0 Str}{ps:A0 IQ}(h:JQ X H o ss ps)(l:∀z∈Y,H z=none\/z∈X):JQ Y H o ss ps:=by
 obtain⟨⟨a,b,i,j,k,m,p,r⟩,d,s,t⟩:=h;have g:∀{b:A3} {u:HO},H b=some u->b∉X->b∉Y:=fun{b u} e n z=>(l b z).elim (λc=>by rw[c]at e;cases e) n;exact⟨⟨a,b,i,j,k,g i m,g j p,g k r⟩,λq f=>⟨(d q f).1,g (d q f).1 (d q f).2⟩,s,t⟩
def Dq{a ps:A0 IQ}(h:(a.map λq=>q.2).Perm (ps.map λq=>q.2)):I0 (B2 a)=I0 (B2 ps) :=
 funext λn=>Dw (U:=λ_=>True) (λ_ _ _ _=>trivial) (λn _ y=>by rw[IT,IT,h.mem_iff]) trivial
def Yn{ns:A0 Str}{a ps:A0 IQ}(h:(a.map λq=>q.2).Perm (ps.map λq=>q.2)):WG ns a=WG ns ps:=by
 funext n;unfold WG;rw[Dq h]
def JC.names_perm{a b:A0 Str}(h:a.Perm b):∀d:JC,(d.names a).Perm (d.names b)
 | .pn _=>h.append_right _
 | .tn _=>h.filter _
 | .ps _ _=>h
 | .ts _ _=>h
def JC.prs_perm{a b:A0 (Str×Str)}(h:a.Perm b):∀d:JC,(d.prs a).Perm (d.prs b)
 | .pn _=>h
 | .tn _=>h.filter _
 | .ps _ _=>h.append_right _
 | .ts _ _=>h.filter _
def JC.names_len{ss:A0 Str}{ps:A0 IQ}(h:ss.length<=30):∀d:JC,d.fit ss ps->(d.names ss).length<=30
 | .pn _,f=>by show(ss++_).length<=30;rw[AV];exact f.1
 | .tn _,_=>VE (BC ..) h
 | .ps _ _,_=>h
 | .ts _ _,_=>h
def JC.prs_len{ss:A0 Str}{ps:A0 IQ}(h:ps.length<=140):∀d:JC,d.fit ss ps->(d.prs (ps.map λq=>q.2)).length<=140
 | .pn _,_=>by show(ps.map _).length<=140;rw[AB];exact h
 | .tn _,_=>VE (BC ..) (by rw[AB];exact h)
 | .ps _ _,f=>by show(ps.map _++_).length<=140;rw[AV,AB];exact f
 | .ts _ _,_=>VE (BC ..) (by rw[AB];exact h)
def JC.fit_perm{ss ns:A0 Str}{ps a:A0 IQ}(h:ns.Perm ss)(k:(a.map λq=>q.2).Perm (ps.map λq=>q.2)):∀d:JC,d.fit ss ps->d.fit ns a
 | .pn _,f=>⟨by rw[h.length_eq];exact f.1,f.2⟩
 | .tn _,_=>trivial
 | .ps _ _,f=>by
  have e:=k.length_eq;rw[AB,AB]at e;show a.length+1<=140;rw[e];exact f
 | .ts _ _,_=>trivial
def JC.can_perm{ss ns:A0 Str}{ps a:A0 IQ}(h:ns.Perm ss)(k:(a.map λq=>q.2).Perm (ps.map λq=>q.2)):∀d:JC,d.can ss ps->d.can ns a
 | .pn _,c=>⟨c.1,λz=>c.2 (h.mem_iff.mp z)⟩
 | .tn _,c=>h.mem_iff.mpr c
 | .ps _ _,c=>⟨h.mem_iff.mpr c.1,h.mem_iff.mpr c.2.1,λz=>c.2.2 (k.mem_iff.mp z)⟩
 | .ts _ _,c=>⟨h.mem_iff.mpr c.1,h.mem_iff.mpr c.2.1,k.mem_iff.mpr c.2.2⟩
def zHg(q:Row3):PyData:=QS false [.str q.1,oD q.2.1,.str q.2.2]
def R3.ow{H:Hp}{l:A3}{j:A0 (A3×Row3)}{ns a:A0 Str}{k:A0 IQ}{sk:Str->A0 Str}{ds:A0 Row3}(h:R3 H l j)(e:(j.map λq=>q.2)=ds)(p:ds=Bc (WG ns k) (I0 sk) a)(t:∀n∈a,PySem.PyData.strOk n=true)(u:a.length<=100):Ow H 3 (QS true (ds.map zHg)) (.ref l) [l]:=by
 have v:j.length<=200:=by
  have:=congrArg List.length (e.trans p);unfold Bc at this;rw[AB,AB]at this;have:=BC (Uj (WG ns k) (I0 sk)) a;lia
 refine Ow.flat (b:=true) h.1 (by rw[<-e,AB,AB,AB]) (by rw[AB];exact v) λi w x d f=>?_;rw[AH]at f;rw[<-e,BQ,AH]at d;obtain⟨q,r,rfl⟩:=BF.mp f;rw[r]at d;cases d;have m:=BB r;have z:q.2∈Bc (WG ns k) (I0 sk) a:=p▸e▸BK.mpr ⟨q,m,rfl⟩;obtain⟨n,o,s⟩:=BK.mp z;have o:=(AY.mp o).1;have g:=h.2 q m;rw[<-s]at g;show Ow H 2 (zHg q.2) _ _;rw[<-s];refine Ow.flat (b:=false) g rfl (by show 3<=200;decide) λi w x d f=>?_
 match i,d,f with
 | 0,d,f=>cases d;cases f;exact .str (t n o)
 | 1,d,f =>
  cases d;cases f;refine .opt λy e=>?_;unfold WG at e;by_cases c:n∈ns
  .rw[AN c]at e;cases e;exact Lm
  .rw[AI c]at e;cases e
 | 2,d,f=>cases d;cases f;exact .str Lm
def Ow.told{H:Hp}{r l:A3}{d:PyData}(h:H r=some (.tup [.str "told",.ref l]))(o:Ow H 3 d (.ref l) [l]):Ow H 4 (.tuple [.str "told",d]) (.ref r) [l]:=Ow.two (L:=[]) h (.str (by decide +kernel)) o
structure KO(CK CW:A3)(X:A0 A3)(H:Hp)(k p o:A3)(ss:A0 Str)(ps:A0 IQ)(ns:A0 Str)(qs:A0 IQ)(m:Nat):Prop where
 kp:KZ CK CW H k p ns qs m
 own:JQ X H o ss ps
 pn:ns.Perm ss
 pq:(qs.map λq=>q.2).Perm (ps.map λq=>q.2)
 l30:ss.length<=30
 l140:ps.length<=140
def KO.same{a b:A3}{X:A0 A3}{H H':Hp}{k p o:A3}{ss ns:A0 Str}{ps c:A0 IQ}{m:Nat}(h:KO a b X H k p o ss ps ns c m)(s:C3 H H'):KO a b X H' k p o ss ps ns c m:=⟨h.kp.same s,h.own.same s,h.pn,h.pq,h.l30,h.l140⟩
def KO.neX{a b:A3}{X Y:A0 A3}{H:Hp}{k p o:A3}{ss ns:A0 Str}{ps c:A0 IQ}{m:Nat}(h:KO a b X H k p o ss ps ns c m)(d:∀z∈Y,H z=none\/z∈X):KO a b Y H k p o ss ps ns c m:=⟨h.kp,h.own.neX d,h.pn,h.pq,h.l30,h.l140⟩
theorem KC:IB ["_law_script","_law_own","_law_keeper","_law_spent","_law_k","_law_left_here","_law_turn","_law_deed_here","_law_new","_law_found","_law_due"] ["_law_script"] (B6 NZ):=KL
def Lz(K:VA):Sp:=λb H Q _=>∃(u:A3) (a:A0 Int),b = [.ref u]/\II K H u (a.map V.int)/\a.length<=63/\∀c,Q (.bl true) c
set_option maxHeartbeats 8000000 in
theorem zDb(T:Tx K mg){f:A3}{fd:IW}(F:PY K "law" "law" NZ f fd):IM P w K mg base JR 10 f fd ["_law_script"] (Lz K):=by
 have D:IM P w K mg base JR 4 T.al.f T.al.fd ["_law_found","_law_due"] (Z9 4):=Y6 T 4;refine F.o1 KC λcdv A outer s H vs Q E C h=>?_
 .obtain⟨u,xs,rfl,hS,hlen,q⟩:=h;have hu:=Q9 C;refine⟨_,(A9 (C6 (i:=1) KC.nd rfl (.inl rfl) (C9 T.aK (Aw T) (Rm C) (A6 (C9 T.aV (Ca T) (Rm C) (A6 (pv 0) (A6 B3 A8))) A8)))
   (A9 (C6 (i:=2) KC.nd rfl (.inl rfl) (j8 T.bD (Da T) (Rm C) rfl T.bC T.bq .nil J6 (A6 (j8 T.bc (Q8 T) (Rm C) rfl T.bb T.ax .nil J6 (A6 (E5 (KQ K) (pv 1) B3 (λ_ _=>rfl)) (A6 (E5 (KQ K) (pv 1) B3 (λ_ _=>rfl)) A8))) A8)))
   (A9 (C6 (i:=3) KC.nd rfl (.inl rfl) B3)
   (A9 (U4 PassesOwn.never rfl (Rg (by rfl) T.aH (A6 B3 (A6 (G7 (Si rfl) T.bH zFa (A6 B3 (A6 (G7 (Ri rfl) T.bG zEn (A6 (G7 (Q2 K) T.as M9 (A6 (pv 0) A8)) (A6 B3 A8))) A8))) A8))) (J0 (i:=4) KC.nd rfl (.inl rfl))
   (A9 (C6 (i:=5) KC.nd rfl (.inl rfl) (C9 T.aV (Ca T) (Rm C) (A6 (pv 0) (A6 (pv 4) A8))))
   (A9 (C6 (i:=3) KC.nd rfl (.inl rfl) (E8 T6 (pv 3) (E8 i8 B3 (C9 T.aY (Fj T) (Rm C) (A6 (pv 1) A8)))))
   (A9 (M0 (B8 zAg (pv 3) B3 (D0 _)) (B5 Vs) D8)
   (B5 (U4 PassesOwn.never rfl (Zl T.aH (A6 (E8 T6 B3 (C9 T.af (C2 T) (Rm C) (A6 (pv 5) (A6 B3 A8)))) A8)) (J0 (i:=6) KC.nd rfl (.inl rfl))
   (A9 (C6 (i:=7) KC.nd rfl (.inl rfl) (C9 T.a8 (Kp T) (Rm C) (A6 (pv 5) (A6 (pv 1) A8))))
   (B5 (M0 (B8 Sb (C9 T.aQ (Cs T) (Rm C) (A6 (pv 1) (A6 (pv 7) A8))) i6 (D0 _)) (A9 (C6 (i:=8) KC.nd rfl (.inl rfl) (E5 (OW K) (C9 T.aU (Dg T) (Rm C) (A6 (pv 1) (A6 (pv 7) A8))) B3 (λ_ _=>rfl)))
   (A9 (C6 (i:=9) KC.nd rfl (.inl rfl) (C9 T.a9 (Ke T) (Rm C) (A6 (pv 2) (A6 (pv 7) A8))))
   (A9 (C6 (i:=10) KC.nd rfl (.inl rfl) (C9 T.aL (Az T) (Rm C) (A6 (C9 T.aA (X2 T) (Rm C) (A6 (pv 1) A8)) (A6 (C9 T.aA (X2 T) (Rm C) (A6 (pv 8) A8)) A8))))
   (A9 (M0 (PW.pt (Cf (B8 (Od K) (E5 (OW K) (pv 7) B3 (λ_ _=>rfl)) (J3 (A6 B9 (A6 B9 A8))) rfl) (j4 (V0 (Q6 (C9 T.al D (Rm C) (A6 (pv 9) (A6 (J3 (A6 B9 (A6 (pv 10) A8))) A8)))))))) (B5 (C1 Im)) D8)
   (B5 (C6 (i:=1) KC.nd rfl (.inl rfl) (pv 8))))))) D8)))))))))
   (B5 (C1 (C9 T.aX (Fc T) (Rm C) (A6 (J5 (pv 2) T.ad T.ay.m (Ae T) (Rm C) T.ay.b .nil J6) (A6 (pv 1) A8))))))))),?_⟩
  refine B4 λN1 hN1=>?_;refine Cv rfl ⟨u,xs,0,rfl,hS,by decide,λp0 H1 hp0 s1 L1=>?_⟩;refine⟨p0,0,rfl,L1,by decide,λo ss ps H2 ho k2 O2 ls lp=>?_⟩;refine hN1 _ _ (B4 λN2 hN2=>?_);obtain⟨⟨a,b,e1,e2,e3,_⟩,pin,nm,st⟩:=id O2;have s2:C3 H H2:=λb o e=>k2 b o (s1 b o e) (by simpa using B0 e hp0);refine Cv rfl ⟨o,_,0,_,rfl,rfl,II.of e1,rfl,Cv rfl ⟨o,_,1,_,rfl,rfl,II.of e1,rfl,?_⟩⟩;intro y dy ny ndy ney;refine Ea ny ndy e2 e3 (λq hq=>(pin q hq).1) nm st λI M H3 pn sn pq sq s3 W3 _=>?_;obtain⟨_,dx,_,_,_,_,_,_,ey,_⟩:=id W3;intro k dk nk ndk nek;have s0:C3 H3 (H_ (H_ H3 dk (.own k)) k (.ins T.aa dk [])):=λb o e=>by
   rw[B7 (B0 e nk),B7 (B0 e ndk)];exact e
  have nmn:∀n∈I,N9 n=true:=λn hn=>nm.1 n (pn.mem_iff.mp hn);refine⟨k,dk,y,I,M,rfl,A7,W3.same s0,B0 ey nk,nmn,λp O H4 N b4 hp K4=>⟨rfl,?_⟩⟩;have hp3:H3 p=none:=s0.free hp;have s34:C3 H3 H4:=λb o e=>b4 b o (B0 e nk) (B0 e hp3) (s0 b o e);have KO4:KO T.aa T.ac [k,p] H4 k p o ss ps I O 0:=⟨K4,(((O2.same s3).neX (Y:=[k,p]) λz hz=>.inl (by
   rcases AU.mp hz with e | e
   .rw[e];exact nk
   .rw[AE.mp e];exact hp3)).same s34),pn,(N.map _).trans (pq.map _),VE ls (by decide),VE lp (by decide)⟩
  have J:=s2.trans (s3.trans s34);have kH:H k=none:=(s2.trans s3).free nk;have pH:H p=none:=(s2.trans s3).free hp3;clear b4 hp K4 s0 hp3 W3 ey pq sq N sn pn nmn s3 s34 e1 e2 e3 pin nm st O2 k2 L1 s1 s2;refine hN2 _ _ (B4 λN3 hN3=>?_);refine hN3 _ _ (B4 λN4 hN4=>?_);have hS4:II K H4 u (xs.map V.int):=(J.at u).seqL hS;refine⟨_,rfl,u,_,rfl,.inl hS4,_,_,rfl,_,_,rfl,?_⟩;have hz:∀l:Int,∃z:Nat,(if(if(31:Int)<l then 31 else l) >(9:Int)then(if(31:Int)<l then 31 else l)else 9) =(z:Int)/\1<=z/\z<=31:=λl=>by
   by_cases h1:(31:Int)<l
   .rw[AN h1];exact⟨31,rfl,by decide,by decide⟩
   .rw[AI h1];by_cases h2:l>9
    .rw[AN h2];exact⟨l.toNat,by lia,by lia,by lia⟩
    .rw[AI h2];exact⟨9,rfl,by decide,by decide⟩
  obtain⟨z,ez,z1,z2⟩:=hz ((xs.map V.int).length:Int);refine⟨1,(z:Int),congrArg (λt=>[V.int 1,V.int t]) ez,⟨by lia,by lia,by lia,by lia⟩,?_⟩;rw[show((z:Int)-1).toNat=z-1 by lia];refine Nw (λi σ G=>∃(o:A3) (sp:Int) (v4 v5 v6 v7 v8 v9 L:A5 V) (ss I:A0 Str) (ps M:A0 IQ) (m:Nat),σ = [some (.ref u),some (.ref o),some (.ref k),some (.int sp),v4,v5,v6,v7,v8,v9,L]/\C3 H G/\KO T.aa T.ac [k,p] G k p o ss ps I M m/\m<=3*i) ⟨_,_,_,_,_,_,_,_,_,_,_,_,_,_,rfl,J,KO4,VD _⟩ ?_ ?_
  .clear KO4 J hS4 hN1 hN2 hN3 hN4;rintro i σ F0 hi ⟨o,sp,v4,v5,v6,v7,v8,v9,L,R,I,S,M,m,rfl,sF,KF,lm⟩ D1 hD1 hB1;refine Yt λM1 U=>?_;refine Cv rfl (Cv rfl ⟨u,xs,1+i,rfl,(sF.at u).seqL hS,by lia,λl F1 hl s1 L1=>?_⟩);refine U _ _ (B4 λM2 X=>?_);have K1:=KF.same s1;have sF1:=sF.trans s1;obtain⟨dk,_,_,_,_,_,_,_,hk,_,_,_,_,_,hp,_⟩:=KF.kp.ex;have lk:l≠k:=(B0 hk hl).symm;have lp:l≠p:=(B0 hp hl).symm;have K1:KO T.aa T.ac [l,k,p] F1 k p o R S I M m:=(KF.neX (Y:=[l,k,p]) λz hz=>(AU.mp hz).elim (λe=>.inl (by rw[e];exact hl)) .inr).same s1;clear s1 hk hp;refine Cv rfl (Cv rfl ⟨[l,k,p],o,R,S,rfl,K1.own,⟨3,_,rfl,rfl,.inl ⟨by decide,by decide⟩,C0 rfl rfl (X _ _ (B4 λM3 Z=>?_))⟩⟩);refine Cv rfl (C0 rfl rfl ?_);refine⟨_,rfl,Z7 (λ_=>?_) λ_=>?_⟩
   .exact hB1 _ _ ⟨_,_,_,_,_,_,_,_,_,_,_,_,_,_,rfl,sF1,K1.neX λz hz=>.inr (AL _ hz),lm⟩
   refine Z _ _ ?_;refine Cv rfl ⟨l,0,3,rfl,L1,by decide,by decide,by decide,λd F2 hd k2 L2=>?_⟩;refine C0 rfl rfl ⟨1 +(d:Int),rfl,by lia,by lia,?_⟩;rw[show(1 +(d:Int)).toNat=1+d by lia];have lX:l∈[l,k,p]:=AX ..;have sF2:C3 H F2:=λb o e=>k2 b o (sF1 b o e) (by simpa using B0 (sF b o e) hl);have v:KO T.aa T.ac [l,k,p] F2 k p o R S I M m:=⟨K1.kp.sm L1 lp k2,K1.own.smp lX k2,K1.pn,K1.pq,K1.l30,K1.l140⟩;have l0:H l=none:=by
    cases e:H l with
    | none=>rfl
    | some o=>rw[sF l o e]at hl;cases hl
   refine U8 (λj σ G=>∃(o:A3) (v6 v7 v8 v9 L:A5 V) (ss I:A0 Str) (ps M:A0 IQ) (m:Nat) (c:Int),σ = [some (.ref u),some (.ref o),some (.ref k),some (.int (sp+3 *(1000 +(R.length:Int) *(S.length:Int)))),some (.int (1 +(i:Int))),some (.ref l),v6,v7,v8,v9,L]/\C3 H G/\IL G l c/\c<=1+30 *(j:Int)/\KO T.aa T.ac [l,k,p] G k p o ss ps I M m/\m<=3*i+j) ⟨_,_,_,_,_,_,_,_,_,_,_,_,rfl,sF2,L2,by lia,v,by lia⟩ ?_ ?_
   .clear v K1 KF sF2 sF1 L1 L2 lm k2 U X Z hB1 hD1;rintro j σ F2 hj ⟨o,v6,v7,v8,v9,L,ss,I,ps,M,m,c,rfl,s2,L2,hc,v,lm⟩ D2 hD2 _;have j3:j<3:=by lia
    refine Yt λM1 U=>?_;refine Cv rfl (Cv rfl ⟨[l,k,p],l,o,c,ss,ps,rfl,L2,by lia,lX,v.own,by have:=v.l140;lia,λt e c' F3 ht hc' k3 L3 D3 f3=>?_⟩);refine U _ _ ?_;have s3:C3 H F3:=λb o e=>k3 b o (s2 b o e) (by simpa using B0 e l0);have kp3:=v.kp.sm L2 lp k3;have O3:=v.own.smp lX k3;refine Cv rfl (Cv rfl ⟨[l,k,p],o,t,ss,ps,e,rfl,O3,D3,f3,λF4 J hc=>?_,λr F4 J=>?_⟩)
    .refine⟨rfl,_,rfl,X3 (B4 λM2 X=>?_)⟩;have O4:=O3.same J;have D4:=D3.same J;have kp4:=kp3.same J;obtain⟨dk,_,_,_,_,_,_,_,hk,W,_,_,_,_,hp,_⟩:=id kp4.ex;have hX:∀z∈[l,k,p],F4 z≠none:=λz hz=>by
      obtain⟨_,_,el,_⟩:=L3.same J;rcases AU.mp hz with h | hz
      .rw[h,el];intro z;cases z
      rcases AU.mp hz with h | hz
      .rw[h,hk];intro z;cases z
      .rw[AE.mp hz,hp];intro z;cases z
     refine Cv rfl (Cv rfl ⟨[l,k,p],o,t,ss,ps,e,rfl,hX,O4,D4,f3,hc,by have:=v.l140;lia,λr o2 sa ss2 ps2 F5 s5 hr0 er O5 en ep=>?_⟩);refine⟨r,_,0,_,rfl,rfl,IV.of er,rfl,?_⟩;refine X _ _ (B4 λM3 Z=>?_);have s5':=s3.trans (J.trans s5);refine Cv rfl (Cv rfl ⟨k,p,t,I,M,m,e,rfl,kp4.same s5,by lia,D4.same s5,e.fit_perm v.pn v.pq f3,e.can_perm v.pn v.pq hc,λr2 l2 rs ns2 O F6 b6 hr2 hl2 er2 K6 pn2 N R6 e6=>?_⟩);refine Z _ _ (B4 λM4 hM4=>?_);have m6:Sm [l,k,p] F5 F6:=λb u e n=>b6 b u (λz=>n (by rw[z];simp)) (λz=>n (by rw[z];simp)) e;have s6:C3 H F6:=λb o e=>b6 b o (B0 e kH) (B0 e pH) (s5' b o e);have L6:IL F6 l c':=let⟨y,z,e,h⟩:=(L3.same J).same s5;⟨y,z,b6 _ _ lk lp e,h⟩;have D6:MM F6 t e:=⟨b6 _ _ (K0 D4.at_ hk (by intro z;cases z)) (K0 D4.at_ hp (by intro z;cases z)) (D4.same s5).at_,D4.ok⟩;have O6:=(O4.same s5).sm m6;have N6:=O5.sm m6;have er6:F6 r2=some (.tup [.str "told",.ref l2]):=(Rr er2).2.2;have R6:=R6.same V3;have W6:=K6.ex;obtain⟨_,_,_,_,_,_,_,_,_,W2,_⟩:=K6.ex;have pn3:ns2.Perm ss2:=by rw[en];exact pn2.trans (e.names_perm v.pn)
     have pq3:(O.map λq=>q.2).Perm (ps2.map λq=>q.2):=by rw[ep];exact N.trans (e.prs_perm v.pq)
     clear b6 hr2 hl2 er2 m6 O5 O4 D4 D3 hk hp hX kp4 kp3 s5' s5 J s3 L3 k3 O3 er hr0 L2 s2;refine Cv rfl ⟨[l,k,p],o,ss,ps,rfl,O6,λla nsa ra F7 s7 hla pna srta ea pina qa=>?_⟩;refine Cv rfl ⟨[l,k,p],o2,ss2,ps2,rfl,N6.same s7,λlb nsb rb F8 s8 hlb pnb srtb eb pinb qb=>?_⟩;have nda:nsa.Nodup:=pna.nodup_iff.mpr O6.nm.2.1;refine⟨la,lb,ra,rb,nsa,nsb,ps,ps2,rfl,s8 _ _ ea,λq hq=>s8 _ _ (pina q hq).1,qa,nda,by rw[pna.length_eq];exact O6.nm.2.2,eb,λq hq=>(pinb q hq).1,qb,by rw[pnb.length_eq];exact N6.nm.2.2,λl3 rs3 F9 s9 hl3 R9 e9=>?_⟩;refine hM4 _ _ (B4 λM5 hM5=>?_);have s79:=(s7.trans s8).trans s9;have okn:∀n∈ns2,PySem.PyData.strOk n=true:=λn hn=>O7 (N6.nm.1 n (pn3.mem_iff.mp hn));have OO:ns2.length<=100:=by rw[pn3.length_eq];exact N6.nm.2.2
     rw[K7 srta W.ok.srt (pna.trans v.pn.symm),K7 srtb W2.ok.srt (pnb.trans pn3.symm),<-Yn v.pq,<-Dq pq3]at e9;have same:∀(g:Hp) (z:A3) (Q':VK) (E':XK),C3 F9 g->g z=none->(∀H',C3 g H'->Q' (.bl true) H')->Z9 4 [.ref r2,.ref z] (H_ g z (.tup [.str "told",.ref l3])) Q' E':=λg z Q' E' B hz hQ=>by
      have u:=C3.new (o:=.tup [.str "told",.ref l3]) hz;exact(Ow.told (u _ _ (B _ _ (s79 _ _ er6))) ((R6.same ((s79.trans B).trans u)).ow e6 rfl okn OO)).alike (Ow.told A7 ((R9.same (B.trans u)).ow e9 rfl okn OO)) λH' s'=>hQ H' (u.trans s')
     have fin:∀σ' g,σ' = [some (.ref u),some (.ref o),some (.ref k),some (.int (sp+3 *(1000 +(R.length:Int) *(S.length:Int)))),some (.int (1 +(i:Int))),some (.ref l),some (.int (0 +(j:Int))),some (.ref t),some (.ref o2),some (.ref r2),some (.ref l3)]->C3 F9 g->M5 σ' g:=λσ' g eσ B=>by
      subst eσ;have s:=s79.trans B;refine hM5 _ _ (Cv rfl (hD2 _ _ ⟨_,_,_,_,_,_,_,_,_,_,_,_,rfl,s6.trans s,L6.same s,by lia,⟨K6.same s,N6.same s,pn3,pq3,?_,?_⟩,by lia⟩))
      .rw[en];exact e.names_len v.l30 f3
      .have:=e.prs_len v.l140 f3;rw[<-ep,AB]at this;exact this
     have D9:=D6.same s79;clear U X Z hM4 hM5 e6 e9 R6 R9 okn OO ea eb qa qb pina pinb srta srtb;cases e with
     | pn y =>
      refine Cv rfl ⟨t,_,0,_,rfl,rfl,IV.of D9.at_,rfl,⟨by show 2<=sizeLine;decide,λz hz=>V6 (ss:=["put_name","take_name"]) (.inr (IV.of A7)) ⟨_,rfl,?_⟩⟩⟩;rw[show decide (("put_name":Str)∈(["put_name","take_name"]:A0 Str))=true by decide +kernel];have u:=C3.new (o:=.tup [.str "put_name",.str "take_name"]) hz;refine X3 (Cv rfl (Cv rfl ⟨by show 2<=sizeLine;decide,λz2 hz2=>same _ _ _ _ u hz2 λg B=>⟨_,rfl,P1 (fin _ _ rfl (u.trans B))⟩⟩))
     | tn y =>
      refine Cv rfl ⟨t,_,0,_,rfl,rfl,IV.of D9.at_,rfl,⟨by show 2<=sizeLine;decide,λz hz=>V6 (ss:=["put_name","take_name"]) (.inr (IV.of A7)) ⟨_,rfl,?_⟩⟩⟩;rw[show decide (("take_name":Str)∈(["put_name","take_name"]:A0 Str))=true by decide +kernel];have u:=C3.new (o:=.tup [.str "put_name",.str "take_name"]) hz;refine X3 (Cv rfl (Cv rfl ⟨by show 2<=sizeLine;decide,λz2 hz2=>same _ _ _ _ u hz2 λg B=>⟨_,rfl,P1 (fin _ _ rfl (u.trans B))⟩⟩))
     | ps x y =>
      refine Cv rfl ⟨t,_,0,_,rfl,rfl,IV.of D9.at_,rfl,⟨by show 2<=sizeLine;decide,λz hz=>V6 (ss:=["put_name","take_name"]) (.inr (IV.of A7)) ⟨_,rfl,?_⟩⟩⟩;rw[show decide (("put_strike":Str)∈(["put_name","take_name"]:A0 Str))=false by decide +kernel];exact P1 (P1 (fin _ _ rfl (C3.new hz)))
     | ts x y =>
      refine Cv rfl ⟨t,_,0,_,rfl,rfl,IV.of D9.at_,rfl,⟨by show 2<=sizeLine;decide,λz hz=>V6 (ss:=["put_name","take_name"]) (.inr (IV.of A7)) ⟨_,rfl,?_⟩⟩⟩;rw[show decide (("take_strike":Str)∈(["put_name","take_name"]:A0 Str))=false by decide +kernel];exact P1 (P1 (fin _ _ rfl (C3.new hz)))
    .refine⟨rfl,_,rfl,P1 ?_⟩;exact hD2 _ _ ⟨_,_,_,_,_,_,_,_,_,_,_,_,rfl,s3.trans J,L3.same J,by lia,⟨kp3.same J,O3.same J,v.pn,v.pq,v.l30,v.l140⟩,by lia⟩
   .rintro σ G ⟨o,v6,v7,v8,v9,L,ss,I,ps,M,m,c,rfl,sG,_,_,KG,lm⟩;exact hD1 _ _ ⟨_,_,_,_,_,_,_,_,_,_,_,_,_,_,rfl,sG,KG.neX λz hz=>.inr (AL _ hz),by lia⟩
  .rintro i σ G ⟨o,sp,v4,v5,v6,v7,v8,v9,L,ss,I,ps,M,m,rfl,sG,KG,lm⟩;refine hN4 _ _ ?_;obtain⟨dk,_,_,_,_,_,_,_,hk,_⟩:=id KG.kp.ex;refine Cv rfl ⟨k,dk,_,rfl,hk,rfl,k,p,I,M,m,rfl,KG.kp,λy O G2 N s2 hy W=>?_⟩;refine Cv rfl ⟨[k,p],y,o,ss,I,O,ps,rfl,W,KG.own.same s2,KG.pn,(N.map _).trans KG.pq,λG3 _=>q G3⟩
end
section
variable{K:VA}{h:IC}{mg:Str->A5 A2}
theorem SK{us:A0 A2}(h:us.length=1):∃a,us = [a]:=List.length_eq_one_iff.mp h
theorem OO{us:A0 A2}(h:us.length=2):∃a b,us = [a,b]:=by
 cases us with
 | nil=>cases h
 | cons a r=>obtain⟨b,rfl⟩:=SK (Nat.succ.inj h);exact⟨a,b,rfl⟩
theorem RQ{us:A0 A2}(h:us.length=3):∃a b c,us = [a,b,c]:=by
 cases us with
 | nil=>cases h
 | cons a r=>obtain⟨b,c,rfl⟩:=OO (Nat.succ.inj h);exact⟨a,b,c,rfl⟩
def IY{x:Str}{st:IP}{ps:A0 Str}{f:A3}{n:A2}{o i:A5 A3}{j:HW (A5 A2)}{kV e m d ct:A2}(X:K.In h)(G:h.Ns mainGlobals mg)(a:PySem.W.nsIn K mainGlobals x=some (some (.ref f)))
  (l:K.lookup f=some ⟨n,o,.func (PySem.W.fnOf x x (U1 st) (S3 st) (B6 st) .none kV e m i d ct),j⟩) (c:PySem.W.codeIn K d x=true) (k:PySem.W.keepIn K (.ref f)=true)
  (p:∀(kV e m:A2) (i:A5 A3) (d ct:A2) (us:A0 A2),us.length=ps.length->bindArgs (PySem.W.fnOf x x (U1 st) (S3 st) (B6 st) .none kV e m i d ct) ⟨us,[]⟩=pure (ps.zip us):=by intro _ _ _ _ _ _ us g;first | (obtain rfl:=FO.mp g;rfl) | (obtain⟨a,rfl⟩:=Sw.SK g;rfl) | (obtain⟨a,b,rfl⟩:=Sw.OO g;rfl) | (obtain⟨a,b,c,rfl⟩:=Sw.RQ g;rfl)):Fn K mg x st ps :=
 ⟨f,_,KD l c k,(KD l c k).binds p,PySem.W.mg_of X G a⟩
def KY{C:A3}{x q:Str}{st:IP}{ps:A0 Str}{f:A3}{n:A2}{o h:A5 A3}{j:HW (A5 A2)}{kV e m d ct:A2}(a:PySem.W.findIn K (.ref C) x=some (some (.ref f)))(i:PySem.W.isFn K (.ref f)=true)
  (l:K.lookup f=some ⟨n,o,.func (PySem.W.fnOf x q (U1 st) (S3 st) (B6 st) .none kV e m h d ct),j⟩) (c:PySem.W.codeIn K d q=true) (k:PySem.W.keepIn K (.ref f)=true)
  (p:∀(kV e m:A2) (h:A5 A3) (d ct:A2) (us:A0 A2),us.length=ps.length->bindArgs (PySem.W.fnOf x q (U1 st) (S3 st) (B6 st) .none kV e m h d ct) ⟨us,[]⟩=pure (ps.zip us):=by intro _ _ _ _ _ _ us g;first | (obtain rfl:=FO.mp g;rfl) | (obtain⟨a,rfl⟩:=Sw.SK g;rfl) | (obtain⟨a,b,rfl⟩:=Sw.OO g;rfl) | (obtain⟨a,b,c,rfl⟩:=Sw.RQ g;rfl)):Mt K C x q st ps :=
 ⟨f,_,KD l c k,(KD l c k).binds p,⟨a,i,k⟩⟩
theorem SG{x z:Str}{v:A2}(X:K.In h)(G:h.Ns mainGlobals mg)(a:PySem.W.nsIn K mainGlobals x=some (some v))(e:∃t,v = .str z t):∃t,mg x=some (.str z t):=by
 obtain⟨t,rfl⟩:=e;exact⟨t,PySem.W.mg_of X G a⟩
theorem SL{x:Str}{z:Int}{v:A2}(X:K.In h)(G:h.Ns mainGlobals mg)(a:PySem.W.nsIn K mainGlobals x=some (some v))(e:∃t,v = .int z t):∃t,mg x=some (.int z t):=by
 obtain⟨t,rfl⟩:=e;exact⟨t,PySem.W.mg_of X G a⟩
theorem SB{C:A3}(h:PySem.W.findIn K (.ref C) "__init__" = some (some (.builtin "ValueError.__init__"))):PySem.W.findIn K (.ref C) "__init__" = some (some (.builtin "ValueError.__init__")):=h
theorem JI{C:A3}{f:Str}(h:PySem.W.findIn K (.ref C) f=some none):JK K C f:=h
end
def SN{l:PySem.W.OpenLaw}{w:HZ}{K:VA}{h:IC}{g:Str->A5 A2}{n f:A3}{r:A2}{t o:A5 A3}{j:HW (A5 A2)}{kV i p d ct:A2}(X:K.In h)(G:h.Ns mainGlobals g)(m:g "law" = some (.ref n))
  (T:Tx K g) (a:PySem.W.nsIn K mainGlobals "law" = some (some (.ref f))) (lk:K.lookup f=some ⟨r,t,.func (PySem.W.fnOf "law" "law" (U1 NZ) (S3 NZ) (B6 NZ) .none kV i p o d ct),j⟩) (c:PySem.W.codeIn K d "law" = true) (k:PySem.W.keepIn K (.ref f)=true) :
  ∃q:IW,(∀(s:A4) (v:A2),BindsTo s q ⟨[v],[]⟩ [("_law_script",v)])/\∀b:IC,K.In b->b.Ns mainGlobals g->IM l.prog w K g b JR 10 n q ["_law_script"] (Lz K):=by
 have e:=m.symm.trans (PySem.W.mg_of X G a);cases e;exact⟨PySem.W.fnOf "law" "law" (U1 NZ) (S3 NZ) (B6 NZ) .none kV i p o d ct,λs v=>.of_eq rfl,λb _ _=>zDb T (KD lk c k)⟩
def walk{l:PySem.W.OpenLaw}{q:HX}{c:A0 Str}{o:(Str->A5 A2)->IC->Prop}{i:HZ->IC->Prop}{d:DefRec}{K:Params->VA}(p:l.most=some 63)(g:d.params.defaults = [])
  (r:∀(w:HZ) (h:IC),i w h->(K w.params).In h)
  (F:∀(w:HZ) (e:Str->A5 A2) (j:A3) (h:IC),(K w.params).In h->h.Ns mainGlobals e->e d.name=some (.ref j) ->
   ∃m:IW,(∀(s:A4) (u:A2),BindsTo s m ⟨[u],[]⟩ [("_law_script",u)])/\∀b:IC,(K w.params).In b->b.Ns mainGlobals e->IM l.prog w (K w.params) e b JR 10 j m ["_law_script"] (Lz (K w.params))) :
  PySem.W.WalkO q c o i l.row.toRowW d [] (λf vs=>PySem.call f vs) :=
 L2.RN (n:=63) (k:=10) (x := "_law_script") (CX:=λ_=>JR) (sp:=λw=>Lz (K w.params)) p (by decide) g ⟨rfl,by decide,by decide⟩ r F (λ_ _ a t v _ y=>⟨a,t,rfl,y,v,λ_=>rfl⟩) λ_ _ _ _ _ z=>z
end Sw
open PySem PySem.W PyProof.Rows
set_option maxRecDepth 100000 in
set_option maxHeartbeats 0 in
theorem PySem.Challenge.cw_strikeweave_k63_names_put_and_taken_holds : PySem.Challenge.rw_strikeweave_k63_names_put_and_taken.Holds := by
 w_on;o_law;k_head;(case hw=>w_witness2)
 k_fill
 refine Sw.walk (l:=PySem.Challenge.rw_strikeweave_k63_names_put_and_taken) rfl rfl (λw h Y=>PySem.W.kIn_of Y) ?F
 case F =>
  intro w mg fa h KX G hmg;refine' Sw.SN KX G hmg (Sw.Tx.mk (Sw.IY KX G ?a1 ?l2 ?c3 ?k4)
   (Sw.IY KX G ?a5 ?l6 ?c7 ?k8)
   (Sw.IY KX G ?a9 ?l10 ?c11 ?k12)
   (Sw.IY KX G ?a13 ?l14 ?c15 ?k16)
   (Sw.IY KX G ?a17 ?l18 ?c19 ?k20)
   (Sw.IY KX G ?a21 ?l22 ?c23 ?k24)
   (Sw.IY KX G ?a25 ?l26 ?c27 ?k28)
   (Sw.IY KX G ?a29 ?l30 ?c31 ?k32)
   (Sw.IY KX G ?a33 ?l34 ?c35 ?k36)
   (Sw.IY KX G ?a37 ?l38 ?c39 ?k40)
   (Sw.IY KX G ?a41 ?l42 ?c43 ?k44)
   (Sw.IY KX G ?a45 ?l46 ?c47 ?k48)
   (Sw.IY KX G ?a49 ?l50 ?c51 ?k52)
   (Sw.IY KX G ?a53 ?l54 ?c55 ?k56)
   (Sw.IY KX G ?a57 ?l58 ?c59 ?k60)
   (Sw.IY KX G ?a61 ?l62 ?c63 ?k64)
   (Sw.IY KX G ?a65 ?l66 ?c67 ?k68)
   (Sw.IY KX G ?a69 ?l70 ?c71 ?k72)
   (Sw.IY KX G ?a73 ?l74 ?c75 ?k76)
   (Sw.IY KX G ?a77 ?l78 ?c79 ?k80)
   (Sw.IY KX G ?a81 ?l82 ?c83 ?k84)
   (Sw.IY KX G ?a85 ?l86 ?c87 ?k88)
   (Sw.IY KX G ?a89 ?l90 ?c91 ?k92)
   (Sw.IY KX G ?a93 ?l94 ?c95 ?k96)
   (Sw.IY KX G ?a97 ?l98 ?c99 ?k100)
   (Sw.IY KX G ?a101 ?l102 ?c103 ?k104)
   (Sw.IY KX G ?a105 ?l106 ?c107 ?k108)
   (Sw.IY KX G ?a109 ?l110 ?c111 ?k112)
   (Sw.IY KX G ?a113 ?l114 ?c115 ?k116)
   (Sw.IY KX G ?a117 ?l118 ?c119 ?k120)
   (Sw.IY KX G ?a121 ?l122 ?c123 ?k124)
   (Sw.IY KX G ?a125 ?l126 ?c127 ?k128)
   (Sw.IY KX G ?a129 ?l130 ?c131 ?k132)
   (Sw.IY KX G ?a133 ?l134 ?c135 ?k136)
   (Sw.IY KX G ?a137 ?l138 ?c139 ?k140)
   (Sw.IY KX G ?a141 ?l142 ?c143 ?k144)
   (Sw.IY KX G ?a145 ?l146 ?c147 ?k148)
   _
   ⟨?g150,?g151,?g152,?g153⟩
   (PySem.W.mg_of KX G ?q149)
   (Sw.JI ?n154)
   (Sw.JI ?n155)
   (Sw.JI ?n156)
   (Sw.JI ?n157)
   _
   _
   (L2.KD ?l160 ?c161 ?k162)
   (L2.PY.binds (L2.KD ?l160 ?c161 ?k162) (λ_ _ _ _ _ _ us hl=>by obtain⟨a,b,c,rfl⟩:=Sw.RQ hl;rfl))
   ⟨?g163,?a158,?i159,?k164⟩
   (Sw.KY ?a165 ?i166 ?l167 ?c168 ?k169)
   (Sw.KY ?a170 ?i171 ?l172 ?c173 ?k174)
   (Sw.KY ?a175 ?i176 ?l177 ?c178 ?k179)
   (Sw.KY ?a180 ?i181 ?l182 ?c183 ?k184)
   (Sw.KY ?a185 ?i186 ?l187 ?c188 ?k189)
   _
   ⟨?g191,?g192,?g193,?g194⟩
   (PySem.W.mg_of KX G ?q190)
   (Sw.JI ?n195)
   (Sw.JI ?n196)
   (Sw.JI ?n197)
   (Sw.JI ?n198)
   _
   _
   (L2.KD ?l201 ?c202 ?k203)
   (L2.PY.binds (L2.KD ?l201 ?c202 ?k203) (λ_ _ _ _ _ _ us hl=>by obtain⟨a,b,rfl⟩:=Sw.OO hl;rfl))
   ⟨?g204,?a199,?i200,?k205⟩
   (Sw.KY ?a206 ?i207 ?l208 ?c209 ?k210)
   (Sw.KY ?a211 ?i212 ?l213 ?c214 ?k215)
   (Sw.KY ?a216 ?i217 ?l218 ?c219 ?k220)
   (Sw.KY ?a221 ?i222 ?l223 ?c224 ?k225)
   (Sw.KY ?a226 ?i227 ?l228 ?c229 ?k230)
   (Sw.KY ?a231 ?i232 ?l233 ?c234 ?k235)
   (Sw.KY ?a236 ?i237 ?l238 ?c239 ?k240)
   (Sw.KY ?a241 ?i242 ?l243 ?c244 ?k245)
   (Sw.KY ?a246 ?i247 ?l248 ?c249 ?k250)
   (Sw.KY ?a251 ?i252 ?l253 ?c254 ?k255)
   _
   _
   (L2.NF ?l257 ?t258 ?k259 ?g260 ?g261)
   (PySem.W.mg_of KX G ?q256)
   _
   _
   (L2.NF ?l263 ?t264 ?k265 ?g266 ?g267)
   (PySem.W.mg_of KX G ?q262)
   _
   _
   (L2.NF ?l269 ?t270 ?k271 ?g272 ?g273)
   (PySem.W.mg_of KX G ?q268)
   _
   _
   (L2.NF ?l275 ?t276 ?k277 ?g278 ?g279)
   (PySem.W.mg_of KX G ?q274)
   _
   _
   (L2.NF ?l281 ?t282 ?k283 ?g284 ?g285)
   (PySem.W.mg_of KX G ?q280)
   _
   _
   (L2.NF ?l287 ?t288 ?k289 ?g290 ?g291)
   (PySem.W.mg_of KX G ?q286)
   _
   _
   (L2.NF ?l293 ?t294 ?k295 ?g296 ?g297)
   (PySem.W.mg_of KX G ?q292)
   _
   _
   (L2.NF ?l299 ?t300 ?k301 ?g302 ?g303)
   (PySem.W.mg_of KX G ?q298)
   _
   _
   (L2.NF ?l305 ?t306 ?k307 ?g308 ?g309)
   (PySem.W.mg_of KX G ?q304)
   ⟨?g310,?g311,?g312,?g313⟩
   ⟨?g314,?g315,?g316,?g317,L2.NM _ _⟩
   ?u318
   ?w319
   ?w320
   ?w321
   ?w322
   ?w323
   ?w324
   ?w325
   ?w326
   ?w327
   (Sw.JI ?n328)
   _
   _
   (L2.KD ?l331 ?c332 ?k333)
   (L2.PY.binds (L2.KD ?l331 ?c332 ?k333) (λ_ _ _ _ _ _ us hl=>by obtain⟨a,b,rfl⟩:=Sw.OO hl;rfl))
   ⟨?a329,?i330,?k333⟩
   ⟨?g334,?g335,?g336,?g337⟩
   ⟨?g338,?g339,?g340,?g341,L2.NM _ _⟩
   ?u342
   ?w343
   ?w344
   ?w345
   ?w346
   ?w347
   ?w348
   ?w349
   ?w350
   ?w351
   (Sw.JI ?n352)
   _
   _
   (L2.KD ?l355 ?c356 ?k357)
   (L2.PY.binds (L2.KD ?l355 ?c356 ?k357) (λ_ _ _ _ _ _ us hl=>by obtain⟨a,b,rfl⟩:=Sw.OO hl;rfl))
   ⟨?a353,?i354,?k357⟩
   ⟨?g358,?g359,?g360,?g361⟩
   ⟨?g362,?g363,?g364,?g365,L2.NM _ _⟩
   ?u366
   ?w367
   ?w368
   ?w369
   ?w370
   ?w371
   ?w372
   ?w373
   ?w374
   ?w375
   (Sw.SB ?g376)
   ⟨?g377,?g378,?g379,?g380⟩
   ⟨?g381,?g382,?g383,?g384,L2.NM _ _⟩
   ?u385
   ?w386
   ?w387
   ?w388
   ?w389
   ?w390
   ?w391
   ?w392
   ?w393
   ?w394
   (Sw.SB ?g395)
   (Sw.SG KX G ?v396 ?e397)
   (Sw.SL KX G ?v398 ?e399)
   (VM KX G ?z400)
   (VM KX G ?z401)
   (VM KX G ?z402)
   (VM KX G ?z403)
   (VM KX G ?z404)
   (VM KX G ?z405)
   (VM KX G ?z406)
   (VM KX G ?z407)
   (VM KX G ?z408)
   (VM KX G ?z409)
   (VM KX G ?z410)
   (VM KX G ?z411)
   (VM KX G ?z412)
   (VM KX G ?z413)
   (VM KX G ?z414)
   (VM KX G ?z415)
   (VM KX G ?z416)
   (VM KX G ?z417)
   (VM KX G ?z418)) ?aL ?lL ?cL ?kL
  case a1|l2|c3|k4|a5|l6|c7|k8|a9|l10|c11|k12|a13|l14|c15|k16|a17|l18|c19|k20|a21|l22|c23|k24|a25|l26|c27|k28|a29|l30|c31|k32|a33|l34|c35|k36|a37|l38|c39|k40|a41|l42|c43|k44|a45|l46|c47|k48|a49|l50|c51|k52|a53|l54|c55|k56|a57|l58|c59|k60|a61|l62|c63|k64|a65|l66|c67|k68|a69|l70|c71|k72|a73|l74|c75|k76|a77|l78|c79|k80|a81|l82|c83|k84|a85|l86|c87|k88|a89|l90|c91|k92|a93|l94|c95|k96|a97|l98|c99|k100|a101|l102|c103|k104|a105|l106|c107|k108|a109|l110|c111|k112|a113|l114|c115|k116|a117|l118|c119|k120|a121|l122|c123|k124|a125|l126|c127|k128|a129|l130|c131|k132|a133|l134|c135|k136|a137|l138|c139|k140|a141|l142|c143|k144|a145|l146|c147|k148|q149|g150|g151|g152|g153|n154|n155|n156|n157|a158|i159|l160|c161|k162|g163|k164|a165|i166|l167|c168|k169|a170|i171|l172|c173|k174|a175|i176|l177|c178|k179|a180|i181|l182|c183|k184|a185|i186|l187|c188|k189|q190|g191|g192|g193|g194|n195|n196|n197|n198|a199|i200|l201|c202|k203|g204|k205|a206|i207|l208|c209|k210|a211|i212|l213|c214|k215|a216|i217|l218|c219|k220|a221|i222|l223|c224|k225|a226|i227|l228|c229|k230|a231|i232|l233|c234|k235|a236|i237|l238|c239|k240|a241|i242|l243|c244|k245|a246|i247|l248|c249|k250|a251|i252|l253|c254|k255|q256|l257=>k_is
  case t258=>kernel_rfl
  case k259|g260|g261|q262|l263=>k_is
  case t264=>kernel_rfl
  case k265|g266|g267|q268|l269=>k_is
  case t270=>kernel_rfl
  case k271|g272|g273|q274|l275=>k_is
  case t276=>kernel_rfl
  case k277|g278|g279|q280|l281=>k_is
  case t282=>kernel_rfl
  case k283|g284|g285|q286|l287=>k_is
  case t288=>kernel_rfl
  case k289|g290|g291|q292|l293=>k_is
  case t294=>kernel_rfl
  case k295|g296|g297|q298|l299=>k_is
  case t300=>kernel_rfl
  case k301|g302|g303|q304|l305=>k_is
  case t306=>kernel_rfl
  case k307|g308|g309|g310|g311|g312|g313|g314|g315|g316|g317=>k_is
  case u318=>kernel_rfl
  case w319=>kit_is
  case w320=>kit_is
  case w321=>kit_is
  case w322=>kit_is
  case w323=>kit_is
  case w324=>kit_is
  case w325=>kit_is
  case w326=>kit_is
  case w327=>kit_is
  case n328|a329|i330|l331|c332|k333|g334|g335|g336|g337|g338|g339|g340|g341=>k_is
  case u342=>kernel_rfl
  case w343=>kit_is
  case w344=>kit_is
  case w345=>kit_is
  case w346=>kit_is
  case w347=>kit_is
  case w348=>kit_is
  case w349=>kit_is
  case w350=>kit_is
  case w351=>kit_is
  case n352|a353|i354|l355|c356|k357|g358|g359|g360|g361|g362|g363|g364|g365=>k_is
  case u366=>kernel_rfl
  case w367=>kit_is
  case w368=>kit_is
  case w369=>kit_is
  case w370=>kit_is
  case w371=>kit_is
  case w372=>kit_is
  case w373=>kit_is
  case w374=>kit_is
  case w375=>kit_is
  case g376|g377|g378|g379|g380|g381|g382|g383|g384=>k_is
  case u385=>kernel_rfl
  case w386=>kit_is
  case w387=>kit_is
  case w388=>kit_is
  case w389=>kit_is
  case w390=>kit_is
  case w391=>kit_is
  case w392=>kit_is
  case w393=>kit_is
  case w394=>kit_is
  case g395|v396=>k_is
  case e397=>exact⟨_,rfl⟩
  case v398=>k_is
  case e399=>exact⟨_,rfl⟩
  case z400|z401|z402|z403|z404|z405|z406|z407|z408|z409|z410|z411|z412|z413|z414|z415|z416|z417|z418|aL|lL|cL|kL=>k_is
